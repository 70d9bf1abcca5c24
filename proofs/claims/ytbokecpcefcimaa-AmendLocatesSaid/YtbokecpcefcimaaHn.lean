/-
  The contracts of layer 5's timesRoot and of the reference's Times. Conditions: elements, no more than 100; the Field lies in a block of its own.
-/
import Derived.Test.YtbokecpcefcimaaHs
import Derived.Test.YtbokecpcefcimaaRm
import Derived.Deep.RegionWith
namespace Go.Proofs.Ytbokecpcefcimaa
open Go.RowKit
open M

/-- A product with x + a, as far as the loop has come. -/
def qj (p : List Nat) (a j : Nat) : List Nat := (List.range (p.length + 1)).map fun i => if i < j then (tm p a).getD i 0 else if i = j then (0 :: p).getD j 0 else 0
theorem qj_length (p : List Nat) (a j : Nat) : (qj p a j).length = p.length + 1 := by simp [qj]
theorem qj_zero (p : List Nat) (a : Nat) : qj p a 0 = List.replicate (p.length + 1) 0 := by
  unfold qj
  rw [tab_congr (p.length + 1) _ (fun _ => 0) ?_, List.map_const', List.length_range]
  intro i _
  rw [if_neg (by omega)]
  split <;> simp
theorem qj_done (p : List Nat) (a : Nat) : qj p a p.length = tm p a := by
  unfold qj
  rw [tab_congr (p.length + 1) _ (fun i => (tm p a).getD i 0) ?_, tab_of _ 0 _ (tm_length p a)]
  intro i hi
  by_cases h : i < p.length
  · rw [if_pos h]
  · obtain rfl : i = p.length := by omega
    rw [if_neg h, if_pos rfl]
    unfold tm
    rw [lx_getD _ _ _ (by simp)]
    have e : ((p.map fun c => mul c a) ++ [0]).getD p.length 0 = 0 := by
      rw [List.getD_eq_getElem?_getD, List.getElem?_append_right (by simp)]
      simp
    rw [e, Nat.xor_zero]
theorem tm_getD (p : List Nat) (a i : Nat) (h : i < p.length) : (tm p a).getD i 0 = (0 :: p).getD i 0 ^^^ mul (p.getD i 0) a := by
  unfold tm
  rw [lx_getD _ _ _ (by simp)]
  congr 1
  rw [List.getD_eq_getElem?_getD, List.getElem?_append_left (by simpa using h), List.getElem?_map, List.getD_eq_getElem?_getD, List.getElem?_eq_getElem h]
  rfl
theorem qj_set (p : List Nat) (a j : Nat) : ((qj p a j).set j ((tm p a).getD j 0)).set (j + 1) (p.getD j 0) = qj p a (j + 1) := by
  unfold qj
  rw [tab_set (p.length + 1) _ (fun i => if i < j + 1 then (tm p a).getD i 0 else 0) j _ (by rw [if_pos (by omega)]) ?_, tab_set (p.length + 1) _ _ (j + 1) _ ?_ ?_]
  · rw [if_neg (by omega), if_pos rfl]; simp
  · intro i e
    by_cases h1 : i < j + 1
    · rw [if_pos h1, if_pos h1]
    · rw [if_neg h1, if_neg e, if_neg h1]
  · intro i e
    by_cases h1 : i < j
    · rw [if_pos (by omega), if_pos h1]
    · rw [if_neg (by omega), if_neg h1, if_neg e]
theorem qj_set2 (p : List Nat) (a j : Nat) : ((qj p a j).set (j + 1) (p.getD j 0)).set j ((tm p a).getD j 0) = qj p a (j + 1) := by
  rw [← qj_set p a j]
  exact List.set_comm _ _ (by omega)
theorem qj_at (p : List Nat) (a j : Nat) (h : j < p.length) : (qj p a j).getD j 0 = (0 :: p).getD j 0 := by
  unfold qj
  rw [tab_getD _ _ _ _ (by omega), if_neg (by omega), if_pos rfl]
theorem qj_next (p : List Nat) (a j : Nat) (h : j < p.length) : (qj p a j).getD (j + 1) 0 = 0 := by
  unfold qj
  rw [tab_getD _ _ _ _ (by omega), if_neg (by omega), if_neg (by omega)]
theorem nset (l : List Nat) (i k v : Nat) (h : i ≠ k) : (l.set i v).getD k 0 = l.getD k 0 := by
  rw [List.getD_eq_getElem?_getD, List.getD_eq_getElem?_getD, List.getElem?_set, if_neg h]
theorem mul_nat (a b m g : Nat) (w : World) (ha : a < 128) (hb : b < 128) (hm : mul a b = m) (h : Fd w g) :
    Calls Try.prog 41 #[.pointer (some ⟨g, 0, none⟩), .int .i64 a, .int .i64 b] w fun e w' => e = .returned (.int .i64 (m : Nat)) ∧ Qt w w' := by
  have := mul_field (a : Int) (b : Int) g w ⟨by omega, by omega⟩ ⟨by omega, by omega⟩ h
  rwa [el_nat a ha, el_nat b hb, hm] at this
theorem mul_rnat (a b m : Nat) (w : World) (ha : a < 128) (hb : b < 128) (hm : mul a b = m) :
    Calls Try.prog 40 #[.int .i64 a, .int .i64 b] w fun e w' => e = .returned (.int .i64 (m : Nat)) ∧ w = w' := by
  have := mul_ref (a : Int) (b : Int) w ⟨by omega, by omega⟩ ⟨by omega, by omega⟩
  rwa [el_nat a ha, el_nat b hb, hm] at this
/-- A list of elements, where it lies. -/
def NatsAt (W : World) (v : Value) (p : List Nat) : Prop :=
  ∃ b cap, v = .slice (some ⟨b, 0, none⟩) p.length cap ∧ Row W b 3 (natCells p)

set_option maxRecDepth 100000 in
set_option maxHeartbeats 1000000 in
theorem tr_any (p : List Nat) (a f b cap : Nat) (w : World) (hp : Els p) (ha : a < 128) (hlen : p.length ≤ 100) (h : ∀ i, i < p.length → w.cell? ⟨b, i, none⟩ = some (.int .i64 (p.getD i 0 : Nat))) (hbw : b < w.heap.size) (hf : Fd w f) :
    Calls Try.prog 43 #[.slice (some ⟨b, 0, none⟩) p.length cap, .int .i64 a, .func (.func 41) #[.pointer (some ⟨f, 0, none⟩)] #[]] w fun e w' =>
      e = .returned (.slice (some ⟨w.heap.size, 0, none⟩) (p.length + 1) (p.length + 1)) ∧ Row w' w.heap.size 3 (natCells (tm p a)) ∧ Below w.heap.size w w' := by
  obtain ⟨n, hn⟩ : ∃ n, p.length = n := ⟨_, rfl⟩
  have hmk : ∀ w, (Instr.makeSlice 40 (.int .i64 ((n : Int) + 1)) (.int .i64 ((n : Int) + 1))).run Try.prog w = .ok (.slice (some ⟨w.heap.size, 0, none⟩) (n + 1) (n + 1)) (w.alloc (.cells (madeCells #[.int .i64 0] (n + 1)) 3)) := fun w => by
    have := run_make_row' (P := Try.prog) 40 3 (.int .i64 0) 8 Try.underlying40 int_info rfl .i64 .i64 (n + 1) (by omega) (by omega) w
    rw [show ((n + 1 : Nat) : Int) = (n : Int) + 1 by omega] at this
    exact this
  have HZ := Lib.hid ((made_nats (n + 1)).trans (by rw [← hn, ← qj_zero p a]))
  have HN := Lib.hid hn
  have HC := Lib.hid h
  have HF := Lib.hid hf
  have HP := Lib.hid hp
  rw [hn] at hlen ⊢
  clear hn h hp hf
  go_enter Try.func43, Try.ntmps43
  go_wp2
  clear hmk
  have HR0 : Hid (Row (w.alloc (.cells (madeCells #[.int .i64 0] (n + 1)) 3)) w.heap.size 3 (natCells (qj p a 0))) := by unfold Hid; rw [← HZ.out]; exact heap_alloc_new _ _
  have HB0 : Hid (Below w.heap.size w (w.alloc (.cells (madeCells #[.int .i64 0] (n + 1)) 3))) := (Below.refl _ _).alloc (Nat.le_refl _) _
  generalize w.alloc (.cells (madeCells #[.int .i64 0] (n + 1)) 3) = w1 at *
  go_loopw [16] (fun i wr => ∃ k : Nat, k ≤ n ∧ i = .int .i64 k ∧ Row wr w.heap.size 3 (natCells (qj p a k)) ∧ Below w.heap.size w wr) (fun i _ => n - (intOf i).toNat)
  case atStart => exact ⟨0, by omega, rfl, HR0.out, HB0.out⟩
  case round =>
    clear HR0 HB0 HZ
    obtain ⟨k, hk, rfl, h1, h2⟩ := hrel
    have HR := Lib.hid h1
    have HB := Lib.hid h2
    clear h1 h2
    by_cases hlt : k < n
    · have c0 : wr.cell? ⟨b, k, none⟩ = some (.int .i64 (p.getD k 0 : Nat)) := (HB.out.cell (p := ⟨b, k, none⟩) hbw).trans (HC.out k (by have := HN.out; omega))
      have c1 := nat_at HR.out k (by rw [qj_length, HN.out]; omega)
      rw [qj_at p a k (by have := HN.out; omega)] at c1
      have HS := Lib.hid (qj_set p a k)
      have HT := Lib.hid (tm_getD p a k (by have := HN.out; omega))
      have hx := HP.out.getD k
      have hy : (0 :: p).getD k 0 < 128 := by
        cases k with
        | zero => simp
        | succ k => rw [List.getD_cons_succ]; exact HP.out.getD k
      have hm := mul_lt _ a hx ha
      obtain ⟨x, hxe⟩ : ∃ x, p.getD k 0 = x := ⟨_, rfl⟩
      obtain ⟨y, hye⟩ : ∃ y, (0 :: p).getD k 0 = y := ⟨_, rfl⟩
      rw [hxe] at hx c0 hm HS HT
      rw [hye] at hy c1 HT
      obtain ⟨m, hme⟩ : ∃ m, mul x a = m := ⟨_, rfl⟩
      rw [hme] at hm HT
      have HME := Lib.hid hme
      have hxor := i64_xor_nat y m (by omega) (by omega)
      have f0 := HR.out.free k
      have HFR := Lib.hid (Row.below HF.out HB.out HF.out.lt)
      clear hxe hye hme
      go_wp2
      go_region_with (go_at_call 41; refine (mul_nat x a m f _ hx ha HME.out (Row.drewN HFR.out _)).mono ?_; rintro e w' ⟨rfl, ⟨q, rfl⟩⟩)
      all_goals
        have HR2 : Hid (Row ((wr.drewN (1 + q)).setCell ⟨w.heap.size, k, none⟩ (.int .i64 ((y ^^^ m : Nat) : Int))) w.heap.size 3 (natCells ((qj p a k).set k (y ^^^ m)))) := by
          unfold Hid; rw [← natCells_set]; exact Row.set (HR.out.drewN _) k _
        have HB2 : Hid (Below w.heap.size w ((wr.drewN (1 + q)).setCell ⟨w.heap.size, k, none⟩ (.int .i64 ((y ^^^ m : Nat) : Int)))) := (Below.drewN HB.out _).setCell (p := ⟨w.heap.size, k, none⟩) (Nat.le_refl _) _
        clear c0 c1 f0 hxor
        generalize (wr.drewN (1 + q)).setCell ⟨w.heap.size, k, none⟩ (.int .i64 ((y ^^^ m : Nat) : Int)) = w4 at *
        have c2 := nat_at HR2.out (k + 1) (by rw [List.length_set, qj_length, HN.out]; omega)
        rw [nset _ _ _ _ (by omega), qj_next p a k (by have := HN.out; omega)] at c2
        have f2 := HR2.out.free (k + 1)
        have hx2 : bits .xor .i64 0 (x : Int) = (x : Int) := by
          have := i64_xor_nat 0 x (by omega) (by omega)
          rw [Nat.zero_xor] at this
          exact this
        go_wp2
        go_roundw
        case rel =>
          refine ⟨k + 1, by omega, by go_num, ?_, HB2.out.setCell (p := ⟨w.heap.size, k + 1, none⟩) (Nat.le_refl _) _⟩
          rw [← HS.out, HT.out, ← natCells_set]
          exact HR2.out.set (k + 1) _
        case measure => simp [intOf] <;> omega
    · obtain rfl : k = n := by omega
      have HD := Lib.hid (qj_done p a)
      rw [HN.out] at HD
      go_wp2
      go_ret
      exact ⟨rfl, by rw [← HD.out]; exact HR.out, HB.out⟩
end Go.Proofs.Ytbokecpcefcimaa
