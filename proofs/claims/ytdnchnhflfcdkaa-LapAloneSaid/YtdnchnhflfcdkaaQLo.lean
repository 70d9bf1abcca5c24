/-
  Layer 11's laws: the law's Held. Conditions: a list of numbers, as it lies.
-/
import Derived.Test.YtdnchnhflfcdkaaQLn
namespace Go.Proofs.Ytdnchnhflfcdkaa
open Go.RowKit
open M
/-- Numbers as values. -/
def iV (l : List Int) : List Value := l.map fun x => Value.int .i64 x
theorem iV_len (l : List Int) : (iV l).length = l.length := by simp [iV]
theorem iV_get (l : List Int) (i : Nat) (h : i < l.length) : (iV l)[i]? = some (.int .i64 (l.getD i 0)) := by
  simp [iV, List.getD_eq_getElem?_getD, h]
theorem iV_one (l : List Int) : ∀ u ∈ iV l, u.oneCell' = true := by
  intro u hu
  obtain ⟨x, _, rfl⟩ := List.mem_map.1 hu
  rfl
theorem iV_app (l m : List Int) : iV (l ++ m) = iV l ++ iV m := by simp [iV]
theorem take_snoc (l : List Int) (k : Nat) (h : k < l.length) : l.take (k + 1) = l.take k ++ [l.getD k 0] := by
  rw [List.take_add_one, List.getD_eq_getElem?_getD, List.getElem?_eq_getElem h]
  rfl
theorem iV_snoc (l : List Int) (k : Nat) (h : k < l.length) : iV (l.take (k + 1)) = iV (l.take k) ++ [.int .i64 (l.getD k 0)] := by
  rw [take_snoc l k h, iV_app]
  rfl
theorem own_ints {w : World} {base n : Nat} {v : Value} {l : List Int} (h : w.ownsRow base 3 1 v n (iV l)) : IntsAt w v l := by
  have hl : l.length = n := by
    have := h.1
    rw [iV_len] at this
    omega
  by_cases h0 : 0 < n
  · obtain ⟨g, cap, rfl, _, hg, hc⟩ := own_cells h h0
    exact ⟨_, cap, by rw [hl], fun _ => ⟨g, 0, rfl, hg, fun i hi => by rw [Nat.zero_add, hc i (by omega), iV_get l i hi]⟩⟩
  · rcases h.2 with ⟨rfl, hn⟩ | ⟨g, cap, _, rfl, _, _, _, _, _, _⟩
    · exact ⟨none, 0, by rw [hl, hn], fun h1 => by omega⟩
    · exact ⟨_, cap, by rw [hl], fun h1 => by omega⟩
/-- Samples from -2^20 to 2^20, up to 384. -/
def h20 (l : List Int) : List Int := (l.map fun x => x.tmod 1048577).take 384
theorem h20_len (l : List Int) : (h20 l).length = min 384 l.length := by simp [h20]
theorem tmod20 (n : Int) : -1048577 < n.tmod 1048577 ∧ n.tmod 1048577 < 1048577 := by
  have h1 := Int.tmod_lt_of_pos n (show (0 : Int) < 1048577 by omega)
  have h2 := Int.tmod_lt_of_pos (-n) (show (0 : Int) < 1048577 by omega)
  rw [Int.neg_tmod] at h2
  omega
theorem h20_bd (l : List Int) : ∀ x ∈ h20 l, -1048576 ≤ x ∧ x ≤ 1048576 := by
  intro x hx
  obtain ⟨y, _, rfl⟩ := List.mem_map.1 (List.mem_of_mem_take hx)
  have := tmod20 y
  omega
theorem map_getD (l : List Int) (k : Nat) : (l.map fun x => x.tmod 1048577).getD k 0 = (l.getD k 0).tmod 1048577 := by
  rw [List.getD_eq_getElem?_getD, List.getD_eq_getElem?_getD, List.getElem?_map]
  cases l[k]? <;> rfl
theorem int_parts : ∃ i, Try.prog.info? 3 = some i ∧ i.zero = some (.int .i64 0) ∧ i.size = 1 ∧ i.bytes = 8 := info_parts int_info
set_option maxRecDepth 100000 in
set_option maxHeartbeats 1000000 in
theorem held20_any (l : List Int) (v : Value) (w : World) (hv : IntsAt w v l) (hl : l.length ≤ maxLen) :
    Calls Try.prog 10 #[v] w fun e w' => (∃ v', e = .returned v' ∧ w'.ownsRow w.heap.size 3 1 v' (h20 l).length (iV (h20 l))) ∧ Below w.heap.size w w' := by
  obtain ⟨i0, hi1, hi2, hi3, hi4⟩ := int_parts
  have HT := Lib.hid (And.intro hi1 (And.intro hi2 (And.intro hi3 hi4)))
  obtain ⟨a, cap, rfl, hcell⟩ := hv
  clear hi1 hi2 hi3 hi4
  have hlen : (l.length : Int) ≤ 9223372036854775807 := by unfold maxLen at hl; omega
  obtain ⟨G, hG⟩ : ∃ G, (l.map fun x => x.tmod 1048577) = G := ⟨_, rfl⟩
  have HGL : Hid (G.length = l.length) := Lib.hid (by rw [← hG, List.length_map])
  have HGA : Hid (∀ k, (l.getD k 0).tmod 1048577 = G.getD k 0) := Lib.hid fun k => by rw [← hG, map_getD]
  have HFIN : Hid (h20 l = G.take 384) := Lib.hid (by rw [← hG]; rfl)
  obtain ⟨L, hL⟩ : ∃ L, l.length = L := ⟨_, rfl⟩
  rw [hL] at hcell hlen HGL ⊢
  obtain ⟨T, hT⟩ : ∃ T, min 384 L = T := ⟨_, rfl⟩
  have HTT : Hid (T ≤ L ∧ T ≤ 384 ∧ (T = L ∨ T = 384)) := Lib.hid (by omega)
  clear hG hL hl hT
  go_enter Try.func10, Try.ntmps10
  go_wp2
  go_loopw [3, 4] (fun oo ii wr => ∃ k : Nat, k ≤ T ∧ ii = .int .i64 k ∧ wr.ownsRow w.heap.size 3 1 oo k (iV (G.take k)) ∧ Below w.heap.size w wr) (fun _ ii _ => T - (intOf ii).toNat)
  case atStart => exact ⟨0, Nat.zero_le _, rfl, World.ownsRow_nil _ _ _ _, Below.refl _ _⟩
  case round =>
    obtain ⟨k, hk, rfl, hown, hb⟩ := hrel
    have HO := Lib.hid hown
    have HB := Lib.hid hb
    clear hown hb
    rcases Nat.lt_or_ge k T with hlt | hge
    · have h1 : k < L := by have := HTT.out; omega
      have h2 : (k : Int) < 384 := by have := HTT.out; omega
      have h3 : (k : Int) < (L : Int) := by omega
      obtain ⟨b, off, rfl, hbs, hcs⟩ := hcell (by omega)
      have c0 := (HB.out.cell (p := ⟨b, off + k, none⟩) hbs).trans (hcs k h1)
      have hst := iV_snoc G k (by rw [HGL.out]; exact h1)
      have hga := HGA.out k
      obtain ⟨x, hx⟩ : ∃ x, l.getD k 0 = x := ⟨_, rfl⟩
      rw [hx] at c0 hga
      have hbd := tmod20 x
      obtain ⟨y, hy⟩ : ∃ y, x.tmod 1048577 = y := ⟨_, rfl⟩
      have hr : IntKind.i64.wrap y = y := by rw [IntKind.wrap_i64]; omega
      have hr2 : wrap64 y = y := by rw [wrap64]; omega
      rw [hy] at hga
      rw [← hga] at hst
      have HST := Lib.hid hst
      have HK := Lib.hid hlt
      clear hcell hcs hx hga hst hk hlt hbd
      go_wp2_with (at_builtin; refine wpList_append_own _ rfl _ _ 22 rfl w.heap.size 3 i0 (.int .i64 0) 1 8 Try.underlying22 HT.out.1 HT.out.2.1 HT.out.2.2.1 HT.out.2.2.2 rfl (by decide) _ _ _ rfl (HO.out.alloc _) ⟨wr.heap.size, 0, none⟩ 1 1 [.int .i64 y] rfl rfl (one_new _ _ rfl _ _) one_cell ?c3 ?c4 ?c5 ?_)
      case c3 => have := HTT.out; have := HK.out; unfold maxLen; omega
      case c4 => have := HTT.out; have := HK.out; omega
      case c5 => have := HB.out.size; simp; omega
      intro v' w3 hown' hgrow _
      have R : Hid (w3.ownsRow w.heap.size 3 1 v' (k + 1) (iV (G.take (k + 1))) ∧ Below w.heap.size w w3) :=
        ⟨by rw [HST.out]; exact hown', (HB.out.alloc HB.out.size _).grown hgrow (by have := HB.out.size; simp; omega) (fun k hk => own_ge HO.out k hk)⟩
      clear hown' hgrow HO HB
      go_wp2
      go_roundw
      case rel => exact ⟨k + 1, HK.out, by go_num, R.out⟩
      case measure =>
        have := HK.out
        simp only [intOf]
        omega
    · obtain rfl : k = T := by omega
      have hg : G.take k = h20 l := by
        rw [HFIN.out]
        rcases HTT.out.2.2 with h | h
        · rw [List.take_of_length_le (by rw [HGL.out]; omega), List.take_of_length_le (by rw [HGL.out]; have := HTT.out; omega)]
        · rw [h]
      have hn : (h20 l).length = k := by rw [← hg, List.length_take, HGL.out]; have := HTT.out; omega
      have HE : Hid (wr.ownsRow w.heap.size 3 1 u3 (h20 l).length (iV (h20 l))) := Lib.hid (by rw [hn, ← hg]; exact HO.out)
      clear hg hn HO HGA HGL HFIN hcell
      rcases Nat.lt_or_ge k L with h1 | h1
      · have h2 : ¬ ((k : Int) < 384) := by have := HTT.out; omega
        have h3 : (k : Int) < (L : Int) := by omega
        clear hk hge
        go_wp2_with fail
        go_ret
        exact ⟨⟨_, rfl, HE.out⟩, HB.out⟩
      · have h3 : ¬ ((k : Int) < (L : Int)) := by omega
        clear hk hge
        go_wp2_with fail
        go_ret
        exact ⟨⟨_, rfl, HE.out⟩, HB.out⟩
end Go.Proofs.Ytdnchnhflfcdkaa
