/-
  The contracts of begin and of Sum.
-/
import Derived.Test.YtppkiponpjnkkaaDoorWb
namespace Go.Proofs.YtppkiponpjnkkaaDoor
open Go.RowKit
open M

attribute [local go_sem] un_add un_sub un_xor un_or un_nonneg un_beq un_bne un_xor_255

def byteCells (k : List UInt8) : Array Value := (k.map fun b => Value.int .u8 (b.toNat : Int)).toArray
theorem byteCells_get (k : List UInt8) (i : Nat) (h : i < k.length) : (byteCells k)[i]? = some (.int .u8 (k[i].toNat : Int)) := by
  simp [byteCells, h]

theorem run_conv (w : World) (g off cap n : Nat) (l : List UInt8) (hn : l.length = n) (h : ∀ i (hi : i < l.length), w.cell? ⟨g, off + i, none⟩ = some (.int .u8 (l[i].toNat : Int))) :
    (convert 41 9 (.slice (some ⟨g, off, none⟩) n cap)).run Tryd.prog w = .ok (.string (ofB l)) w := by
  have := run_convert_bytes_arg (P := Tryd.prog) w 41 5 Tryd.underlying41 Tryd.underlying5 g off n cap (l.map fun b => (b.toNat : Int)) (by simpa using hn)
    (fun i hi => by
      have hi' : i < l.length := by omega
      rw [h i hi']
      simp [hi']) 9 Tryd.underlying9
  rw [this]
  have e : strOfNums (l.map fun b => (b.toNat : Int)) = ofB l := by
    unfold strOfNums ofB
    rw [List.map_map]
    congr 2
    have : ((fun n : Int => UInt8.ofNat n.toNat) ∘ fun b : UInt8 => (b.toNat : Int)) = id := by
      funext b; simp
    rw [this, List.map_id]
  rw [e]

/-- The signs lie where the program's text lays them. -/
def Signs (w : World) : Prop := w.cell? ⟨0, 0, none⟩ = some (.int .u64 (un 8317987319222330741#64)) ∧ w.cell? ⟨0, 1, none⟩ = some (.int .u64 (un 7237128888997146477#64)) ∧
  w.cell? ⟨0, 2, none⟩ = some (.int .u64 (un 7816392313619706465#64)) ∧ w.cell? ⟨0, 3, none⟩ = some (.int .u64 (un 8387220255154660723#64))
theorem Signs.lt {w : World} (h : Signs w) : 0 < w.heap.size := block_lt_of_cell h.1
theorem Signs.below {B : Nat} {w w' : World} (h : Signs w) (hb : Below B w w') (hB : 0 < B) : Signs w' := by
  obtain ⟨h0, h1, h2, h3⟩ := h
  exact ⟨(hb.cell (p := ⟨_, 0, none⟩) hB).trans h0, (hb.cell (p := ⟨_, 1, none⟩) hB).trans h1, (hb.cell (p := ⟨_, 2, none⟩) hB).trans h2, (hb.cell (p := ⟨_, 3, none⟩) hB).trans h3⟩

theorem begin_any (k : List UInt8) (w : World) (hk : k.length = 16) (h : Signs w) :
    Calls Tryd.prog 25 #[.agg (byteCells k)] w fun e w' => e = .returned (.agg (cells4 (V4.start (word (k.take 8)) (word (k.drop 8))))) ∧ Below w.heap.size w w' := by
  have hlt := h.lt
  obtain ⟨s0, s1, s2, s3⟩ := h
  have hb : ∀ (o : Obj) i, i < 16 → ((w.alloc (.cells (byteCells k) 23)).alloc o).cell? ⟨w.heap.size, i, none⟩ = (byteCells k)[i]? := by
    intro o i hi
    exact cell_of_row _ _ _ _ _ _ (heap_alloc2_old _ _ _)
  have k1 := fun o => run_conv ((w.alloc (.cells (byteCells k) 23)).alloc o) w.heap.size 0 16 8 (k.take 8) (by simp; omega) (fun i hi => by
    rw [Nat.zero_add, hb o i (by simp at hi; omega), byteCells_get k i (by simp at hi; omega)]
    simp)
  have k2 := fun o => run_conv ((w.alloc (.cells (byteCells k) 23)).alloc o) w.heap.size 8 8 8 (k.drop 8) (by simp; omega) (fun i hi => by
    rw [hb o (8 + i) (by simp at hi; omega), byteCells_get k (8 + i) (by simp at hi; omega)]
    simp)
  clear hb
  go_enter Tryd.func25, Tryd.ntmps25
  go_wp2_with (go_at_call 33; refine (join_any _ _ (by rw [ofB_size]; simp; omega)).mono ?_; rintro e w' ⟨rfl, rfl⟩)
  refine bodyPost_ret (v := .agg (cells4 (V4.start (word (k.take 8)) (word (k.drop 8))))) (by simp [results, Tryd.results25, go_sem]; rfl) rfl ⟨rfl, ?_⟩
  exact ((Below.refl _ _).alloc (Nat.le_refl _) _).alloc (by simp) _

theorem key_size : (Tryd.prog.info? 23).map (·.size) = some 16 := by kernel_rfl
theorem key_info (k : List UInt8) (hk : k.length = 16) : (Tryd.prog.info? 23).map (·.size) = some (byteCells k).size := by
  rw [key_size]; simp [byteCells, hk]

attribute [local go_sem] cells4
set_option maxHeartbeats 400000 in
theorem sum_any (k : List UInt8) (s : ByteArray) (w : World) (hk : k.length = 16) (hs : s.size ≤ maxLen) (h : Signs w) :
    Calls Tryd.prog 21 #[.agg (byteCells k), .string s] w fun e w' => e = .returned (.int .u64 (un (sum k (bl s)))) ∧ Below w.heap.size w w' := by
  have hn : s.size / 8 + 1 ≤ 2000000000000000000 := by unfold maxLen at hs; omega
  have HG := Lib.hid (h.below ((Below.refl w.heap.size w).alloc (Nat.le_refl _) (.cells (byteCells k) 23)) h.lt)
  have HI := Lib.hid (key_info k hk)
  obtain ⟨v0, hv0⟩ : ∃ v, V4.start (word (k.take 8)) (word (k.drop 8)) = v := ⟨_, rfl⟩
  have HV := Lib.hid hv0
  clear h hv0
  go_enter Tryd.func21, Tryd.ntmps21
  go_wp2_with (first
    | (refine wpList_load_row rfl 23 (.tmp 2) rfl w.heap.size rfl 23 (byteCells k) (0, 0) _ (heap_alloc_new _ _) Tryd.underlying23 rfl HI.out ?_)
    | (go_at_call 25; refine (begin_any k _ hk HG.out).mono ?_; rintro e w1 ⟨rfl, hb⟩; rw [HV.out]; have HB := Lib.hid hb; clear hb)
    | (go_at_call 27; refine (count_any s _ hs).mono ?_; rintro e w' ⟨rfl, rfl⟩))
  have HL : Hid (Below w1.heap.size w1 (w1.alloc (.cells (cells4 v0) 44)) ∧ Row (w1.alloc (.cells (cells4 v0) 44)) w1.heap.size 44 (cells4 v0)) :=
    ⟨(Below.refl _ _).alloc (Nat.le_refl _) _, heap_alloc_new _ _⟩
  go_loopw [14] (fun i wr => ∃ j : Nat, j ≤ s.size / 8 + 1 ∧ i = .int .i64 j ∧ Below w1.heap.size w1 wr ∧ Row wr w1.heap.size 44 (cells4 (upto k (bl s) j))) (fun i _ => s.size / 8 + 1 - (intOf i).toNat)
  case atStart => exact ⟨0, Nat.zero_le _, rfl, HL.out.1, by rw [upto_zero, HV.out]; exact HL.out.2⟩
  case round =>
    clear HL HG HI
    obtain ⟨j, hj, rfl, ho, hr⟩ := hrel
    by_cases hlt : j < s.size / 8 + 1
    · have hu := upto_succ k (bl s) j (by rw [bl_length]; exact hlt)
      obtain ⟨v, hv⟩ : ∃ v, upto k (bl s) j = v := ⟨_, rfl⟩
      rw [hv] at hr hu
      have HU := Lib.hid hu
      have HO := Lib.hid ho
      have HR := Lib.hid hr
      have c3 := hr.c3
      have f3 := hr.free 3
      clear hu hv ho hr
      go_wp2_with (first
        | (go_at_call 28; refine (wordAt_any s j _ hs hlt).mono ?_; rintro e w' ⟨rfl, rfl⟩)
        | (go_at_call 29; refine (repeat_any 2 w1.heap.size 44 ⟨v.a, v.b, v.c, v.d ^^^ wordAt (bl s) j⟩ _ (by omega) (HR.out.set 3 _)).mono ?_
           rintro e w2 ⟨rfl, ho2, hr2⟩
           have HO2 := Lib.hid ho2
           have HR2 := Lib.hid hr2
           have d0 := hr2.c0
           have e0 := hr2.free 0
           clear ho2 hr2))
      go_roundw
      case rel => exact ⟨j + 1, by omega, by go_num, (HO.out.trans ((((Below.refl _ wr).setCell (p := ⟨w1.heap.size, 3, none⟩) (Nat.le_refl _) _).trans (HO2.out.below (Nat.le_refl _))))).setCell (p := ⟨w1.heap.size, 0, none⟩) (Nat.le_refl _) _, by rw [HU.out]; exact HR2.out.set 0 _⟩
      case measure => simp [intOf]; omega
    · obtain rfl : j = s.size / 8 + 1 := by omega
      have hd := upto_done k (bl s) (s.size / 8 + 1) (by rw [bl_length])
      obtain ⟨v, hv⟩ : ∃ v, upto k (bl s) (s.size / 8 + 1) = v := ⟨_, rfl⟩
      rw [hv] at hr hd
      have HD := Lib.hid hd
      have HO := Lib.hid ho
      have HR := Lib.hid hr
      have c2 := hr.c2
      have f2 := hr.free 2
      clear hd hv ho hr
      go_wp2_with (
        (go_at_call 29; refine (repeat_any 4 w1.heap.size 44 ⟨v.a, v.b, v.c ^^^ 255#64, v.d⟩ _ (by omega) (HR.out.set 2 _)).mono ?_
         rintro e w2 ⟨rfl, ho2, hr2⟩
         have HO2 := Lib.hid ho2
         have d0 := hr2.c0
         have d1 := hr2.c1
         have d2 := hr2.c2
         have d3 := hr2.c3
         clear ho2 hr2))
      go_ret
      refine ⟨ret_eq (by rw [← HD.out]; rfl), ?_⟩
      exact (((Below.refl _ w).alloc (Nat.le_refl _) _).trans (HB.out.mono (by simp))).trans ((HO.out.mono (by have := HB.out.size; simp at this; omega)).trans
        (((Below.refl _ wr).setCell (p := ⟨w1.heap.size, 2, none⟩) (by have := HB.out.size; simp at this; show w.heap.size ≤ w1.heap.size; omega) _).trans (HO2.out.below (by have := HB.out.size; simp at this; omega))))
end Go.Proofs.YtppkiponpjnkkaaDoor
