/-
  container/heap's up, over any value with methods. Conditions: its methods do to the list that it stands for what they say.
-/
import Derived.Test.YtnjohdgdmnkjlaaHa
namespace Go.Proofs.Ytnjohdgdmnkjlaa
open Go.RowKit
open M
def UpP {α : Type} (lt : α → α → Bool) (d : α) (l : List α) (j : Nat) (St : List α → World → Prop) (e : Ending) (w' : World) : Prop := e = .returned (.tuple #[]) ∧ St (hup lt d (l.length + 1) l j) w'
set_option maxRecDepth 100000 in
set_option maxHeartbeats 1000000 in
theorem up_any {α : Type} (lt : α → α → Bool) (d : α) (T : TypeId) (rv : Value) (gn gl gs : Nat) (St : List α → World → Prop) (H : HM lt d T rv gn gl gs St) (l : List α) (i : Nat) (w : World) (hs : St l w) (hi : i < l.length) (hl : l.length ≤ 1000000) :
    Calls Try.prog 32 #[.iface T rv, .int .i64 (i : Int)] w fun e w' => UpP lt d l i St e w' := by
  have HS := Lib.hid hs
  have HH := Lib.hid H
  have eL := H.el
  have eS := H.es
  have HLN := Lib.hid hi
  have HLB := Lib.hid hl
  clear hs H hi hl
  go_enter Try.func32, Try.ntmps32
  go_wp2
  go_loopw [1] (fun jj wr => ∃ (j f : Nat) (m : List α), jj = .int .i64 j ∧ hup lt d (f + 1) m j = hup lt d (l.length + 1) l i ∧ St m wr ∧ m.length = l.length ∧ j ≤ f ∧ j < l.length) (fun jj _ => (intOf jj).toNat)
  case atStart => exact ⟨i, l.length, l, rfl, rfl, HS.out, rfl, by have := HLN.out; omega, HLN.out⟩
  case round =>
    clear HS HLN
    obtain ⟨j, f, m, rfl, hd, hst, hml, hjf, hjl⟩ := hrel
    have hjI : (j : Int) ≤ 1000000 := by have := HLB.out; omega
    have HD := Lib.hid hd
    have HST := Lib.hid hst
    have HML := Lib.hid hml
    have HJF := Lib.hid hjf
    have HJL := Lib.hid hjl
    clear hd hst hml hjf hjl
    by_cases h0 : j = 0
    · subst h0
      have HDN : Hid (hup lt d (f + 1) m 0 = m) := Lib.hid (by unfold hup; exact if_pos rfl)
      go_wp2_with fail
      go_end0
      exact ⟨rfl, by rw [← HD.out, HDN.out]; exact HST.out⟩
    · obtain ⟨p, hp⟩ : ∃ p, p = pa j := ⟨_, rfl⟩
      have hpj : p < j := by unfold pa at hp; omega
      have ep : ((j : Int) - 1) / 2 = (p : Int) := by unfold pa at hp; omega
      have hj1 : (1 : Int) ≤ (j : Int) := by omega
      have hne : ((p : Int) == (j : Int)) = false := by rw [beq_eq_false_iff_ne]; omega
      have HP := Lib.hid hp
      have HPJ := Lib.hid hpj
      obtain ⟨v1, m1, c1⟩ := HH.out.less m wr j p HST.out (by have := HML.out; have := HJL.out; omega) (by have := HML.out; have := HJL.out; omega)
      simp [go_sem, Made.depth] at m1
      have C1 := Lib.hid c1
      clear c1 hp hpj h0
      cases hb : lt (m.getD j d) (m.getD p d)
      · rw [hb] at C1
        have HDN : Hid (hup lt d (f + 1) m j = m) := Lib.hid (by unfold hup; rw [if_neg (by have := HP.out; have := HPJ.out; omega), ← HP.out, hb]; rfl)
        clear hb
        go_wp2_with fail
        refine C1.out.mono ?_
        rintro e w7 ⟨rfl, hst⟩
        have HST2 := Lib.hid hst
        clear hst C1 HST
        go_wp2_with fail
        go_end0
        exact ⟨rfl, by rw [← HD.out, HDN.out]; exact HST2.out⟩
      · rw [hb] at C1
        obtain ⟨f, rfl⟩ : ∃ f', f = f' + 1 := ⟨f - 1, by have := HJF.out; have := HPJ.out; omega⟩
        have HDN : Hid (hup lt d (f + 1 + 1) m j = hup lt d (f + 1) (swq d m p j) p) := Lib.hid (by
          conv => lhs; unfold hup
          rw [if_neg (by have := HP.out; have := HPJ.out; omega), ← HP.out, hb]; rfl)
        clear hb
        go_wp2_with fail
        refine C1.out.mono ?_
        rintro e w7 ⟨rfl, hst⟩
        obtain ⟨v3, m3, c3⟩ := HH.out.swap m w7 p j hst (by have := HML.out; have := HJL.out; have := HPJ.out; omega) (by have := HML.out; have := HJL.out; omega)
        simp [go_sem, Made.depth] at m3
        have C3 := Lib.hid c3
        clear hst C1 HST c3 m1
        go_wp2_with fail
        refine C3.out.mono ?_
        rintro e w9 ⟨rfl, hst⟩
        have HST3 := Lib.hid hst
        clear hst C3 m3
        go_wp2_with fail
        go_roundw
        case rel => exact ⟨p, f, swq d m p j, rfl, by rw [← HDN.out, HD.out], HST3.out, by rw [swq_len, HML.out], by have := HJF.out; have := HPJ.out; omega, by have := HJL.out; have := HPJ.out; omega⟩
        case measure =>
          have := HPJ.out
          simp only [intOf, Int.toNat_natCast]
          omega
end Go.Proofs.Ytnjohdgdmnkjlaa
