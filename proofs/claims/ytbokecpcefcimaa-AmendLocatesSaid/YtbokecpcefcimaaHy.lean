/-
  The contract of layer 5's add. Conditions: a word lies in a block of its own, the generator in another one.
-/
import Derived.Test.YtbokecpcefcimaaHv
namespace Go.Proofs.Ytbokecpcefcimaa
open Go.RowKit
open M

/-- A word to which the generator's first m bits are added from a place on. -/
def ab (B : List Bool) (j : Nat) : Nat → List Bool
  | 0 => B
  | m + 1 => if genT.getD m 0 = 1 then flip (ab B j m) (j + m) else ab B j m
theorem ab_length (B : List Bool) (j m : Nat) : (ab B j m).length = B.length := by
  induction m with
  | zero => rfl
  | succ m ih => simp only [ab]; split; rw [flip_length, ih]; exact ih

/-- Bits as numbers, told again. -/
def ob (r : List Nat) : List Bool := r.map fun c => c == 1
theorem ob_length (r : List Nat) : (ob r).length = r.length := by unfold ob; rw [List.length_map]
theorem ob_getD (r : List Nat) (i : Nat) : (ob r).getD i false = (r.getD i 0 == 1) := by
  unfold ob
  rw [List.getD_eq_getElem?_getD, List.getD_eq_getElem?_getD, List.getElem?_map]
  cases r[i]? <;> rfl
theorem ob_set (r : List Nat) (i v : Nat) : ob (r.set i v) = (ob r).set i (v == 1) := by unfold ob; rw [List.map_set]
theorem set_self (l : List Bool) (i : Nat) : l.set i (l.getD i false) = l := by
  apply bext _ _ (by rw [List.length_set])
  intro k hk
  rw [List.length_set] at hk
  rcases Nat.lt_or_ge i l.length with h | h
  · rw [bset _ _ _ _ h]
    by_cases e : i = k
    · subst e; rw [if_pos rfl]
    · rw [if_neg e]
  · rw [List.set_eq_of_length_le h]
theorem addk_bit (r : List Nat) (j m : Nat) (h : j + m ≤ r.length) (hr : ∀ k, r.getD k 0 ≤ 1) (k : Nat) : (addk r j genT m).getD k 0 ≤ 1 := by
  rw [addk_getD r j genT m h]
  split
  · have e1 := hr k
    have e2 := gen_bits (k - j)
    generalize r.getD k 0 = a at e1
    generalize genT.getD (k - j) 0 = b at e2
    rcases Nat.le_one_iff_eq_zero_or_eq_one.1 e1 with rfl | rfl <;> rcases Nat.le_one_iff_eq_zero_or_eq_one.1 e2 with rfl | rfl <;> decide
  · exact hr k
theorem addk_ab (r : List Nat) (j : Nat) (hr : ∀ k, r.getD k 0 ≤ 1) (m : Nat) (h : j + m ≤ r.length) : ob (addk r j genT m) = ab (ob r) j m := by
  induction m with
  | zero => rfl
  | succ m ih =>
    have ih := ih (by omega)
    have h1 := addk_bit r j m (by omega) hr (j + m)
    have h2 := gen_bits m
    show ob ((addk r j genT m).set (j + m) ((addk r j genT m).getD (j + m) 0 ^^^ genT.getD m 0)) = if genT.getD m 0 = 1 then flip (ab (ob r) j m) (j + m) else ab (ob r) j m
    rw [ob_set, ih]
    have h3 : (ab (ob r) j m).getD (j + m) false = ((addk r j genT m).getD (j + m) 0 == 1) := by rw [← ih, ob_getD]
    generalize (addk r j genT m).getD (j + m) 0 = a at *
    generalize genT.getD m 0 = b at *
    rcases Nat.le_one_iff_eq_zero_or_eq_one.1 h2 with rfl | rfl
    · rw [if_neg (by omega), Nat.xor_zero, ← h3, set_self]
    · rw [if_pos rfl]
      unfold M.flip
      rw [h3]
      rcases Nat.le_one_iff_eq_zero_or_eq_one.1 h1 with rfl | rfl <;> rfl
/-- What is left of a word that is divided, its d highest bits gone. -/
def rb (u : List Bool) (d : Nat) : List Bool := ob (rd (r0 u) d)
theorem rb_length (u : List Bool) (hu : u.length = 64) (d : Nat) (hd : d ≤ 64) : (rb u d).length = 127 := by
  unfold rb; rw [ob_length]; exact (rd_all (r0 u) (r0_length u hu) (r0_bits u) d hd).1
theorem rb_one (u : List Bool) (hu : u.length = 64) (d : Nat) (hd : d < 64) (h : (rb u d).getD (126 - d) false = true) : rb u (d + 1) = ab (rb u d) (63 - d) 64 := by
  obtain ⟨h1, h2, _, _⟩ := rd_all (r0 u) (r0_length u hu) (r0_bits u) d (by omega)
  unfold rb at h ⊢
  rw [ob_getD, beq_iff_eq] at h
  have e : rd (r0 u) (d + 1) = if (rd (r0 u) d).getD (126 - d) 0 = 1 then addk (rd (r0 u) d) (63 - d) genT 64 else rd (r0 u) d := rfl
  rw [e, if_pos h, addk_ab _ _ h2 64 (by omega)]
theorem rb_not (u : List Bool) (d : Nat) (h : (rb u d).getD (126 - d) false = false) : rb u (d + 1) = rb u d := by
  unfold rb at h ⊢
  rw [ob_getD] at h
  have e : rd (r0 u) (d + 1) = if (rd (r0 u) d).getD (126 - d) 0 = 1 then addk (rd (r0 u) d) (63 - d) genT 64 else rd (r0 u) d := rfl
  rw [e, if_neg (by intro h2; rw [h2] at h; simp at h)]
theorem rb_end (u : List Bool) (w : List Bool) (hw : w.drop 63 = u) : (rb u 64).take 63 ++ w.drop 63 = enc u := by
  unfold rb enc lowU ob
  rw [hw, List.map_take]

set_option maxRecDepth 100000 in
set_option maxHeartbeats 1000000 in
theorem add_any (B : List Bool) (c b j : Nat) (w : World) (hB : B.length = 127) (hj : j ≤ 63) (hw : Row w c 32 (boolCells B)) (hg : Row w b 3 (natCells genT)) (hne : b ≠ c) :
    Calls Try.prog 28 #[.pointer (some ⟨c, 0, none⟩), .slice (some ⟨b, 0, none⟩) 64 64, .int .i64 j] w fun e w' => e = .returned (.tuple #[]) ∧ Row w' c 32 (boolCells (ab B j 64)) ∧ Only c w w' := by
  have HW := Lib.hid hw
  have HG := Lib.hid hg
  have HBL := Lib.hid hB
  clear hw hg hB
  go_enter Try.func28, Try.ntmps28
  go_wp2
  go_loopw [10] (fun i wr => ∃ k : Nat, k ≤ 64 ∧ i = .int .i64 k ∧ Row wr c 32 (boolCells (ab B j k)) ∧ Only c w wr) (fun i _ => 64 - (intOf i).toNat)
  case atStart => exact ⟨0, by omega, rfl, HW.out, Only.refl _ _⟩
  case round =>
    obtain ⟨k, hk, rfl, hr, ho⟩ := hrel
    have HR := Lib.hid hr
    have HO := Lib.hid ho
    clear hr ho
    by_cases hlt : k < 64
    · have c0 : wr.cell? ⟨b, k, none⟩ = some (.int .i64 (genT.getD k 0 : Nat)) := by
        rw [World.cell?_of_block (HO.out.block b hne)]
        exact nat_at HG.out k (by rw [gen_length]; exact hlt)
      have hgb := gen_bits k
      have c1 := word_at HR.out (j + k) (by rw [ab_length, HBL.out]; omega)
      have f1 := HR.out.free (j + k)
      have HS : Hid (ab B j (k + 1) = if genT.getD k 0 = 1 then flip (ab B j k) (j + k) else ab B j k) := rfl
      generalize genT.getD k 0 = x at *
      obtain ⟨y, hy⟩ : ∃ y, (ab B j k).getD (j + k) false = y := ⟨_, rfl⟩
      rw [hy] at c1
      have HY := Lib.hid hy
      clear hy
      by_cases h1 : x = 1
      · subst h1
        go_wp2
        go_region
        go_wp2
        go_roundw
        case rel =>
          refine ⟨k + 1, by omega, by go_num, ?_, (HO.out.setCell (j + k) none _).drew⟩
          rw [HS.out, if_pos trivial]
          unfold M.flip
          rw [HY.out, ← boolCells_set]
          exact HR.out.set (j + k) _
        case measure => simp [intOf] <;> omega
      · have e0 : (((x : Nat) : Int) == 1) = false := by rw [beq_eq_false_iff_ne]; omega
        have e0' : (x == 1) = false := by rw [beq_eq_false_iff_ne]; omega
        have H1 := Lib.hid h1
        clear h1
        go_wp2
        go_roundw
        case rel => exact ⟨k + 1, by omega, by go_num, by rw [HS.out, if_neg H1.out]; exact HR.out, HO.out⟩
        case measure => simp [intOf] <;> omega
    · obtain rfl : k = 64 := by omega
      go_wp2
      go_end0
      exact ⟨rfl, HR.out, HO.out⟩
end Go.Proofs.Ytbokecpcefcimaa
