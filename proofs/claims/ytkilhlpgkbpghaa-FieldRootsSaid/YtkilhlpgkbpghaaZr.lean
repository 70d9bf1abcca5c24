/-
  The walk of the law FieldRoots. Conditions: bytes; the list lies as it was opened.
-/
import Derived.Test.YtkilhlpgkbpghaaFe
import Derived.Test.YtkilhlpgkbpghaaFz
namespace Go.Proofs.Ytkilhlpgkbpghaa
open Go.RowKit
open M

theorem own_below {w w' : World} {base n size : Nat} {e : TypeId} {v : Value} {xs : List Value} (h : w.ownsRow base e size v n xs) (hb : Below w.heap.size w w') : w'.ownsRow base e size v n xs := by
  refine ⟨h.1, ?_⟩
  rcases h.2 with h0 | ⟨g, cap, cur, h1, h2, h3, h4⟩
  · exact Or.inl h0
  · exact Or.inr ⟨g, cap, cur, h1, h2, (hb.block g (Row.lt h3)).trans h3, h4⟩
/-- The first j of a list, as they were appended. -/
def natV (l : List Nat) (j : Nat) : List Value := (l.take j).map fun x : Nat => Value.int .i64 (x : Int)
theorem natV_succ (l : List Nat) (j : Nat) (h : j < l.length) : natV l (j + 1) = natV l j ++ [.int .i64 (l.getD j 0 : Nat)] := by
  unfold natV
  rw [List.take_succ_eq_append_getElem h, List.map_append, List.getD, List.getElem?_eq_getElem h]
  rfl
theorem natV_get (l : List Nat) (i : Nat) (h : i < l.length) : (natV l l.length)[i]? = some (.int .i64 (l.getD i 0 : Nat)) := by
  unfold natV
  simp [h]
def castL (l : List Nat) : List Int := l.map fun x : Nat => (x : Int)
theorem own_ints {w : World} {B : Nat} {v : Value} {l : List Nat} (h : w.ownsRow B 3 1 v l.length (natV l l.length)) : IntsAt w v (castL l) := by
  have hl : (castL l).length = l.length := by simp [castL]
  rcases Nat.eq_zero_or_pos l.length with h0 | h0
  · rcases h.2 with ⟨rfl, _⟩ | ⟨g, cap, cur, rfl, _⟩
    · exact ⟨none, 0, by rw [hl, h0], fun hc => by rw [hl] at hc; omega⟩
    · exact ⟨some ⟨g, 0, none⟩, cap, by rw [hl], fun hc => by rw [hl] at hc; omega⟩
  · obtain ⟨g, cap, rfl, _, hlt, hc⟩ := own_cells h h0
    refine ⟨some ⟨g, 0, none⟩, cap, by rw [hl], fun _ => ⟨g, 0, rfl, hlt, fun i hi => ?_⟩⟩
    rw [hl] at hi
    rw [Nat.zero_add, hc i hi, natV_get l i hi]
    simp [castL, List.getD_eq_getElem?_getD, List.getElem?_eq_getElem hi]
theorem cast_el (l : List Nat) (h : Els l) : (castL l).map el = l := by
  unfold castL
  rw [List.map_map]
  conv => rhs; rw [← List.map_id l]
  apply List.map_congr_left
  intro a ha
  exact el_nat a (h a ha)
theorem zs_succ (l : List Nat) (j : Nat) (h : j < l.length) : zs (l.take (j + 1)) = (zs (l.take j) && (l.getD j 0 == 0)) := by
  have e : l.getD j 0 = l[j] := by rw [List.getD_eq_getElem?_getD, List.getElem?_eq_getElem h]; rfl
  unfold zs
  rw [List.take_succ_eq_append_getElem h, List.all_append, e]
  congr 1
  simp only [List.all_cons, List.all_nil, Bool.and_true]

set_option maxRecDepth 100000 in
set_option maxHeartbeats 400000 in
theorem roots_big (l : Value) (xs : List Int) (w : World) (hl : 30 < xs.length) (hm : xs.length ≤ maxLen) (h : BytesAt w l xs) :
    Calls Try.prog 7 #[l] w fun e w' => e = .returned (.bool true) ∧ Below w.heap.size w w' := by
  unfold maxLen at hm
  obtain ⟨a, lcap, rfl, hcells⟩ := h
  clear hcells
  have hl' : (30 : Int) < (xs.length : Int) := by omega
  go_enter Try.func7, Try.ntmps7
  go_wp2_with fail
  refine (awake_any _).mono ?_
  rintro e w1 ⟨rfl, hb⟩
  have HB := Lib.hid hb
  clear hb
  go_wp2_with fail
  refine (awake_any _).mono ?_
  rintro e w2 ⟨rfl, hb⟩
  have HB2 := Lib.hid (HB.out.trans (hb.mono HB.out.size))
  clear hb
  go_wp2
  go_ret
  exact ⟨rfl, HB2.out⟩

set_option maxRecDepth 100000 in
set_option maxHeartbeats 400000 in
theorem roots_walk (l : Value) (xs : List Int) (w : World) (hl : xs.length ≤ 30) (hp : ∀ p ∈ xs, 0 ≤ p ∧ p ≤ 255) (h : BytesAt w l xs) :
    Calls Try.prog 7 #[l] w fun e w' => e = .returned (.bool true) ∧ Below w.heap.size w w' := by
  obtain ⟨i0, hi0, hz0, hz1, hz2⟩ := info_parts int_info
  have HT := Lib.hid (And.intro hi0 (And.intro hz0 (And.intro hz1 hz2)))
  clear hi0 hz0 hz1 hz2
  obtain ⟨a, lcap, rfl, hcells⟩ := h
  have HC := Lib.hid hcells
  have HP := Lib.hid hp
  obtain ⟨L, hL⟩ : ∃ L, xs.map el = L := ⟨_, rfl⟩
  have hLe : Els L := by rw [← hL]; exact els_map xs
  have hLl : L.length = xs.length := by rw [← hL]; simp
  have hLg : ∀ j, j < xs.length → L.getD j 0 = el (xs.getD j 0) := by
    intro j hj
    rw [← hL]
    simp [List.getD_eq_getElem?_getD, List.getElem?_eq_getElem hj]
  have HLE := Lib.hid hLe
  have HLL := Lib.hid hLl
  have HLG := Lib.hid hLg
  have hl' : (xs.length : Int) ≤ 30 := by omega
  clear hcells hp hL hLe hLl hLg
  go_enter Try.func7, Try.ntmps7
  go_wp2_with fail
  refine (awake_any _).mono ?_
  rintro e w1 ⟨rfl, hb⟩
  have HA := Lib.hid hb
  clear hb
  go_wp2_with fail
  refine (new_any _).mono ?_
  rintro e w2 ⟨rfl, hb, hf⟩
  have HB0 := Lib.hid (HA.out.trans (hb.mono HA.out.size))
  generalize w1.heap.size = g at *
  have HF0 := Lib.hid hf
  clear hb hf HA
  go_wp2
  go_loopw [4, 5, 6] (fun v z i wr => ∃ (j : Nat) (q : Value), j ≤ xs.length ∧ i = .int .i64 j ∧ z = .bool (zs (L.take j)) ∧ q = v ∧ wr.ownsRow w2.heap.size 3 1 q j (natV L j) ∧ Below w2.heap.size w2 wr) (fun _ _ i _ => xs.length - (intOf i).toNat)
  case atStart => exact ⟨0, _, Nat.zero_le _, rfl, rfl, rfl, World.ownsRow_nil _ _ _ _, Below.refl _ _⟩
  case round =>
    obtain ⟨j, q, hj, rfl, rfl, rfl, hown, hb⟩ := hrel
    have HO := Lib.hid hown
    have HB := Lib.hid hb
    clear hown hb
    by_cases hlt : j < xs.length
    · obtain ⟨b, off, rfl, hbw, hcc⟩ := HC.out (by omega)
      have hcj := hcc j hlt
      have HLJ := Lib.hid (HLG.out j hlt)
      have HZ := Lib.hid (zs_succ L j (by rw [HLL.out]; exact hlt))
      have HV := Lib.hid (natV_succ L j (by rw [HLL.out]; exact hlt))
      obtain ⟨n, hn⟩ : ∃ n, xs.getD j 0 = n := ⟨_, rfl⟩
      have hnok : 0 ≤ n ∧ n ≤ 255 := by
        have e : xs.getD j 0 = xs[j] := by rw [List.getD_eq_getElem?_getD, List.getElem?_eq_getElem hlt]; rfl
        rw [← hn, e]; exact HP.out _ (List.getElem_mem _)
      rw [hn] at hcj HLJ
      have HCJ := Lib.hid hcj
      obtain ⟨n0, n255⟩ := hnok
      obtain ⟨E, hE⟩ : ∃ E, el n = E := ⟨_, rfl⟩
      rw [hE] at HLJ
      have hEi : n % 128 = (E : Int) := by rw [← hE, el_int]
      have hE1 : E < 128 := by rw [← hE]; exact el_lt n
      have c0 : wr.cell? ⟨b, off + j, none⟩ = some (.int .u8 n) := (HB.out.cell (p := ⟨b, off + j, none⟩) (by have := HB0.out.size; exact Nat.lt_of_lt_of_le hbw this)).trans ((HB0.out.cell (p := ⟨b, off + j, none⟩) hbw).trans hcj)
      have hji : (j : Int) < (xs.length : Int) := by omega
      rw [HLJ.out] at HV HZ
      obtain ⟨z, hz⟩ : ∃ z, zs (L.take j) = z := ⟨_, rfl⟩
      rw [hz] at HZ ⊢
      clear hcc hcj hn hE hz HC
      go_wp2_with (at_builtin; refine wpList_append_own _ rfl _ _ 31 rfl w2.heap.size 3 i0 (.int .i64 0) 1 8 Try.underlying31 HT.out.1 HT.out.2.1 HT.out.2.2.1 HT.out.2.2.2 rfl (by decide) _ _ _ rfl (HO.out.alloc _) ⟨wr.heap.size, 0, none⟩ 1 1 [.int .i64 (E : Nat)] rfl rfl (one_new _ _ rfl _ _) one_cell ?c3 ?c4 ?c5 ?_)
      case c3 => unfold maxLen; omega
      case c4 => omega
      case c5 => have := HB.out.size; simp; omega
      intro v' w3 hown' hgrow _
      have R : Hid (w3.ownsRow w2.heap.size 3 1 v' (j + 1) (natV L (j + 1)) ∧ Below w2.heap.size w2 w3) :=
        ⟨by rw [HV.out]; exact hown', (HB.out.alloc HB.out.size _).grown hgrow (by have := HB.out.size; simp; omega) (fun k hk => own_ge HO.out k hk)⟩
      clear hown' hgrow HO HB c0
      have c1 : w3.cell? ⟨b, off + j, none⟩ = some (.int .u8 n) := (R.out.2.cell (p := ⟨b, off + j, none⟩) (by have := HB0.out.size; exact Nat.lt_of_lt_of_le hbw this)).trans ((HB0.out.cell (p := ⟨b, off + j, none⟩) hbw).trans HCJ.out)
      cases z
      · go_wp2
        go_roundw
        case rel => exact ⟨j + 1, _, by omega, by go_num, by rw [HZ.out]; rfl, rfl, R.out⟩
        case measure => simp [intOf] <;> omega
      · by_cases hE0 : E = 0
        · subst hE0
          go_wp2
          go_roundw
          case rel => exact ⟨j + 1, _, by omega, by go_num, by rw [HZ.out]; rfl, rfl, R.out⟩
          case measure => simp [intOf] <;> omega
        · have e0 : (((E : Nat) : Int) == 0) = false := by rw [beq_eq_false_iff_ne]; omega
          have e0b : (E == 0) = false := by rw [beq_eq_false_iff_ne]; omega
          have HEB := Lib.hid e0b
          clear hE0
          go_wp2
          go_roundw
          case rel => exact ⟨j + 1, _, by omega, by go_num, by rw [HZ.out, HEB.out]; rfl, rfl, R.out⟩
          case measure => simp [intOf] <;> omega
    · obtain rfl : j = xs.length := by omega
      have HI : Hid (IntsAt wr q (castL L)) := by
        have := HO.out
        rw [← HLL.out] at this
        exact own_ints this
      have HFA : Hid (Fd wr g) := HF0.out.box HB.out
      have HBA := Lib.hid (HB0.out.trans (HB.out.mono HB0.out.size))
      have hzt : zs (L.take xs.length) = zs L := by rw [← HLL.out, List.take_length]
      rw [hzt]
      have HCE := Lib.hid (cast_el L HLE.out)
      have hcl : (castL L).length ≤ 1000 := by
        have : (castL L).length = L.length := by simp [castL]
        rw [this, HLL.out]; omega
      have HCI : Hid (∀ p ∈ castL L, inI p) := by
        intro p hp
        obtain ⟨c, hc, rfl⟩ := List.mem_map.1 hp
        have := HLE.out c hc
        exact ⟨by omega, by omega⟩
      clear hzt HO HB HF0 HB0 HC hlt hj
      go_wp2
      go_loopw [7, 8] (fun n x ws => ∃ k : Nat, k ≤ 128 ∧ x = .int .i64 k ∧ n = .int .i64 (cn L k : Nat) ∧ Qt wr ws) (fun _ x _ => 128 - (intOf x).toNat)
      case atStart => exact ⟨0, by omega, rfl, rfl, Qt.refl _⟩
      case round =>
        obtain ⟨k, hk, rfl, rfl, hq⟩ := hrel
        have HQ := Lib.hid hq
        clear hq
        have hck := cn_le L k
        by_cases hlt : k < 128
        · have HCS := Lib.hid (cn_succ L k)
          obtain ⟨e0, he0⟩ : ∃ e, ev k L = e := ⟨_, rfl⟩
          have HE0 := Lib.hid he0
          clear he0
          obtain ⟨C, hC⟩ : ∃ C, cn L k = C := ⟨_, rfl⟩
          rw [hC] at hck ⊢
          have HC := Lib.hid hC
          clear hC
          go_wp2_with fail
          refine (eval_any (castL L) q (k : Int) g _ ⟨by omega, by omega⟩ hcl HCI.out (HI.out.below (HQ.out.below (Below.refl _ _))) (HQ.out.row HFA.out)).mono ?_
          rintro e w5 ⟨rfl, hq⟩
          have HQ2 := Lib.hid (HQ.out.trans hq)
          clear hq
          rw [HCE.out, el_nat k hlt, HE0.out]
          by_cases h0 : e0 = 0
          · subst h0
            go_wp2
            go_roundw
            case rel => exact ⟨k + 1, by omega, by go_num, by rw [HCS.out, HE0.out, HC.out]; go_num, HQ2.out⟩
            case measure => simp [intOf] <;> omega
          · have f0 : (((e0 : Nat) : Int) == 0) = false := by rw [beq_eq_false_iff_ne]; omega
            have f0b : (e0 == 0) = false := by rw [beq_eq_false_iff_ne]; omega
            have HEB := Lib.hid f0b
            clear h0
            go_wp2
            go_roundw
            case rel => exact ⟨k + 1, by omega, by go_num, by rw [HCS.out, HE0.out, HC.out, HEB.out]; go_num, HQ2.out⟩
            case measure => simp [intOf] <;> omega
        · obtain rfl : k = 128 := by omega
          have HEND := Lib.hid (HQ.out.below HBA.out)
          cases hz : zs L
          · have hfew := roots_few L.length L rfl HLE.out hz
            rw [HLL.out] at hfew
            obtain ⟨C, hC⟩ : ∃ C, cn L 128 = C := ⟨_, rfl⟩
            rw [hC] at hfew hck ⊢
            have hfi : (C : Int) < (xs.length : Int) := by omega
            clear hC hz hlt hk
            go_wp2
            go_ret
            exact ⟨rfl, HEND.out⟩
          · have hall := cn_zs L hz 128 (Nat.le_refl _)
            rw [hall]
            clear hall hz hlt hk hck
            go_wp2
            go_ret
            exact ⟨rfl, HEND.out⟩

theorem roots_law (l : Value) (xs : List Int) (w : World) (hm : xs.length ≤ maxLen) (hp : ∀ p ∈ xs, 0 ≤ p ∧ p ≤ 255) (h : BytesAt w l xs) :
    Calls Try.prog 7 #[l] w fun e w' => e = .returned (.bool true) ∧ Below w.heap.size w w' := by
  by_cases hl : xs.length ≤ 30
  · exact roots_walk l xs w hl hp h
  · exact roots_big l xs w (by omega) hm h
end Go.Proofs.Ytkilhlpgkbpghaa
