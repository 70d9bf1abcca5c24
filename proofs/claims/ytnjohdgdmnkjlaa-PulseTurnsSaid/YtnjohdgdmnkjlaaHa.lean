/-
  container/heap's down, up, Init, over any value with methods: what they do to the list that it stands for. Conditions: its methods Len, Less and Swap do to the list what they say.
-/
import Derived.Test.YtnjohdgdmnkjlaaBh
import Derived.Test.YtnjohdgdmnkjlaaTy
import Derived.Deep.Cut
namespace Go.Proofs.Ytnjohdgdmnkjlaa
open Go.RowKit
open M
/-- What is asked of a value's methods: Less and Swap, of a list that lies in a world. -/
structure HM {α : Type} (lt : α → α → Bool) (d : α) (T : TypeId) (rv : Value) (gn gl gs : Nat) (St : List α → World → Prop) : Prop where
  en : ∀ args w, (callFunc gn args).run Try.prog w = .ok (.enter gn args) w
  el : ∀ args w, (callFunc gl args).run Try.prog w = .ok (.enter gl args) w
  es : ∀ args w, (callFunc gs args).run Try.prog w = .ok (.enter gs args) w
  len : ∀ l w, St l w → ∃ v, (method (Try.prog.types.size + Made.depth) T rv "Len").run Try.prog w = .ok (gn, v) w ∧ Calls Try.prog gn #[v] w fun e w' => e = .returned (.int .i64 (l.length : Int)) ∧ St l w'
  less : ∀ l w i j, St l w → i < l.length → j < l.length → ∃ v, (method (Try.prog.types.size + Made.depth) T rv "Less").run Try.prog w = .ok (gl, v) w ∧ Calls Try.prog gl #[v, .int .i64 (i : Int), .int .i64 (j : Int)] w fun e w' => e = .returned (.bool (lt (l.getD i d) (l.getD j d))) ∧ St l w'
  swap : ∀ l w i j, St l w → i < l.length → j < l.length → ∃ v, (method (Try.prog.types.size + Made.depth) T rv "Swap").run Try.prog w = .ok (gs, v) w ∧ Calls Try.prog gs #[v, .int .i64 (i : Int), .int .i64 (j : Int)] w fun e w' => e = .returned (.tuple #[]) ∧ St (swq d l i j) w'
/-- What down leaves: the list sifted down; false, if that is as it was. -/
def DnP {α : Type} (lt : α → α → Bool) (d : α) (n : Nat) (l : List α) (i : Nat) (St : List α → World → Prop) (e : Ending) (w' : World) : Prop :=
  ∃ b, e = .returned (.bool b) ∧ St (hdn lt d n n l i) w' ∧ (b = false → hdn lt d n n l i = l)
set_option maxRecDepth 100000 in
set_option maxHeartbeats 1000000 in
theorem down_any {α : Type} (lt : α → α → Bool) (d : α) (T : TypeId) (rv : Value) (gn gl gs : Nat) (St : List α → World → Prop) (H : HM lt d T rv gn gl gs St) (l : List α) (i n : Nat) (w : World) (hs : St l w) (hn : n ≤ l.length) (hl : l.length ≤ 1000000) (hi : i ≤ 1000000) :
    Calls Try.prog 34 #[.iface T rv, .int .i64 (i : Int), .int .i64 (n : Int)] w fun e w' => DnP lt d n l i St e w' := by
  have HS := Lib.hid hs
  have HH := Lib.hid H
  have eL := H.el
  have eS := H.es
  have hlI : (l.length : Int) ≤ 1000000 := by omega
  have hnI : (n : Int) ≤ 1000000 := by omega
  have hiI : (i : Int) ≤ 1000000 := by omega
  have HLN := Lib.hid hn
  clear hs H hn hl hi
  go_enter Try.func34, Try.ntmps34
  go_wp2
  go_loopw [7] (fun jj wr => ∃ (j f : Nat) (m : List α), jj = .int .i64 j ∧ hdn lt d n f m j = hdn lt d n n l i ∧ St m wr ∧ m.length = l.length ∧ n ≤ j + f ∧ i ≤ j ∧ j ≤ 1000000 ∧ (j = i → m = l)) (fun jj _ => n - (intOf jj).toNat)
  case atStart => exact ⟨i, n, l, rfl, rfl, HS.out, rfl, by omega, Nat.le_refl _, by omega, fun _ => rfl⟩
  case round =>
    clear HS
    obtain ⟨j, f, m, rfl, hd, hst, hml, hnf, hij, hjb, hji⟩ := hrel
    have hjI : (j : Int) ≤ 1000000 := by omega
    have HD := Lib.hid hd
    have HST := Lib.hid hst
    have HML := Lib.hid hml
    have HNF := Lib.hid hnf
    have HIJ := Lib.hid hij
    have HJI := Lib.hid hji
    clear hd hst hml hnf hij hji hjb
    rcases Nat.lt_or_ge (2 * j + 1) n with hlt | hge
    · obtain ⟨f, rfl⟩ : ∃ f', f = f' + 1 := ⟨f - 1, by have := HNF.out; omega⟩
      obtain ⟨j1, hj1⟩ : ∃ j1, j1 = 2 * j + 1 := ⟨_, rfl⟩
      obtain ⟨j2, hj2⟩ : ∃ j2, j2 = 2 * j + 2 := ⟨_, rfl⟩
      have e1 : 2 * (j : Int) + 1 = (j1 : Int) := by omega
      have e2 : (j1 : Int) + 1 = (j2 : Int) := by omega
      have hltI : (j1 : Int) < (n : Int) := by omega
      have HJ1 := Lib.hid hj1
      have HJ2 := Lib.hid hj2
      have HLCH : Hid (lch lt d m j n = if j2 < n ∧ lt (m.getD j2 d) (m.getD j1 d) = true then j2 else j1) := Lib.hid (by rw [hj1, hj2]; rfl)
      have HB : Hid (2 * j + 1 < n) := Lib.hid hlt
      by_cases h2 : j2 < n
      · have h2I : (j2 : Int) < (n : Int) := by omega
        obtain ⟨v1, m1, c1⟩ := HH.out.less m wr j2 j1 HST.out (by have := HML.out; have := HLN.out; omega) (by have := HML.out; have := HLN.out; omega)
        simp [go_sem, Made.depth] at m1
        have C1 := Lib.hid c1
        clear c1 hj1 hj2 hlt
        cases hc : lt (m.getD j2 d) (m.getD j1 d)
        · rw [hc] at C1
          have HLC := Lib.hid (show lch lt d m j n = j1 by rw [HLCH.out, hc]; exact if_neg (by simp))
          clear hc h2
          go_wp2_with fail
          refine C1.out.mono ?_
          rintro e w7 ⟨rfl, hst⟩
          have HST2 := Lib.hid hst
          have HC : Hid (2 * j + 1 < n ∧ j < j1 ∧ j1 < n) := Lib.hid (by have := HB.out; have := HJ1.out; omega)
          clear hst C1 m1 HLCH HST HJ1 HJ2 HB
          obtain ⟨v2, m2, c2⟩ := HH.out.less m w7 j1 j HST2.out (by have := HML.out; have := HLN.out; have := HC.out; omega) (by have := HML.out; have := HLN.out; have := HC.out; omega)
          simp [go_sem, Made.depth] at m2
          have C2 := Lib.hid c2
          clear c2
          cases hb : lt (m.getD j1 d) (m.getD j d)
          · rw [hb] at C2
            have HDN : Hid (hdn lt d n (f + 1) m j = m) := Lib.hid (by unfold hdn; rw [if_neg (by have := HC.out; omega), HLC.out, hb]; rfl)
            clear hb
            go_wp2_with fail
            refine C2.out.mono ?_
            rintro e w8 ⟨rfl, hst⟩
            have HST3 := Lib.hid hst
            clear hst C2
            go_wp2_with fail
            go_ret
            exact ⟨decide (i < j), by (first | rfl | (congr 2; simp)), by rw [← HD.out, HDN.out]; exact HST3.out, fun h => by
              have h1 := of_decide_eq_false h
              rw [← HD.out, HDN.out]
              exact HJI.out (by have := HIJ.out; omega)⟩
          · rw [hb] at C2
            have HDN : Hid (hdn lt d n (f + 1) m j = hdn lt d n f (swq d m j j1) j1) := Lib.hid (by
              conv => lhs; unfold hdn
              rw [if_neg (by have := HC.out; omega), HLC.out, hb]; rfl)
            clear hb
            go_wp2_with fail
            refine C2.out.mono ?_
            rintro e w8 ⟨rfl, hst⟩
            obtain ⟨v3, m3, c3⟩ := HH.out.swap m w8 j j1 hst (by have := HML.out; have := HLN.out; have := HC.out; omega) (by have := HML.out; have := HLN.out; have := HC.out; omega)
            simp [go_sem, Made.depth] at m3
            have C3 := Lib.hid c3
            clear c3 hst C2 m2
            go_wp2_with fail
            refine C3.out.mono ?_
            rintro e w9 ⟨rfl, hst⟩
            have HST3 := Lib.hid hst
            clear hst C3 m3
            go_wp2_with fail
            go_roundw
            case rel => exact ⟨j1, f, swq d m j j1, rfl, by rw [← HDN.out, HD.out], HST3.out, by rw [swq_len, HML.out], by have := HNF.out; have := HC.out; omega, by have := HIJ.out; have := HC.out; omega, by have := HC.out; have := HLN.out; omega, fun h => by have := HIJ.out; have := HC.out; omega⟩
            case measure =>
              have := HC.out
              simp only [intOf, Int.toNat_natCast]
              omega
        · rw [hc] at C1
          have HLC := Lib.hid (show lch lt d m j n = j2 by rw [HLCH.out, hc]; exact if_pos ⟨h2, rfl⟩)
          clear hc
          go_wp2_with fail
          refine C1.out.mono ?_
          rintro e w7 ⟨rfl, hst⟩
          have HST2 := Lib.hid hst
          have HC : Hid (2 * j + 1 < n ∧ j < j2 ∧ j2 < n) := Lib.hid (by have := HB.out; have := HJ2.out; omega)
          clear hst C1 m1 HLCH HST HJ1 HJ2 HB h2
          obtain ⟨v2, m2, c2⟩ := HH.out.less m w7 j2 j HST2.out (by have := HML.out; have := HLN.out; have := HC.out; omega) (by have := HML.out; have := HLN.out; have := HC.out; omega)
          simp [go_sem, Made.depth] at m2
          have C2 := Lib.hid c2
          clear c2
          cases hb : lt (m.getD j2 d) (m.getD j d)
          · rw [hb] at C2
            have HDN : Hid (hdn lt d n (f + 1) m j = m) := Lib.hid (by unfold hdn; rw [if_neg (by have := HC.out; omega), HLC.out, hb]; rfl)
            clear hb
            go_wp2_with fail
            refine C2.out.mono ?_
            rintro e w8 ⟨rfl, hst⟩
            have HST3 := Lib.hid hst
            clear hst C2
            go_wp2_with fail
            go_ret
            exact ⟨decide (i < j), by (first | rfl | (congr 2; simp)), by rw [← HD.out, HDN.out]; exact HST3.out, fun h => by
              have h1 := of_decide_eq_false h
              rw [← HD.out, HDN.out]
              exact HJI.out (by have := HIJ.out; omega)⟩
          · rw [hb] at C2
            have HDN : Hid (hdn lt d n (f + 1) m j = hdn lt d n f (swq d m j j2) j2) := Lib.hid (by
              conv => lhs; unfold hdn
              rw [if_neg (by have := HC.out; omega), HLC.out, hb]; rfl)
            clear hb
            go_wp2_with fail
            refine C2.out.mono ?_
            rintro e w8 ⟨rfl, hst⟩
            obtain ⟨v3, m3, c3⟩ := HH.out.swap m w8 j j2 hst (by have := HML.out; have := HLN.out; have := HC.out; omega) (by have := HML.out; have := HLN.out; have := HC.out; omega)
            simp [go_sem, Made.depth] at m3
            have C3 := Lib.hid c3
            clear c3 hst C2 m2
            go_wp2_with fail
            refine C3.out.mono ?_
            rintro e w9 ⟨rfl, hst⟩
            have HST3 := Lib.hid hst
            clear hst C3 m3
            go_wp2_with fail
            go_roundw
            case rel => exact ⟨j2, f, swq d m j j2, rfl, by rw [← HDN.out, HD.out], HST3.out, by rw [swq_len, HML.out], by have := HNF.out; have := HC.out; omega, by have := HIJ.out; have := HC.out; omega, by have := HC.out; have := HLN.out; omega, fun h => by have := HIJ.out; have := HC.out; omega⟩
            case measure =>
              have := HC.out
              simp only [intOf, Int.toNat_natCast]
              omega
      · have HLC := Lib.hid (show lch lt d m j n = j1 by rw [HLCH.out]; exact if_neg (fun h => h2 h.1))
        have h2I : ¬ (j2 : Int) < (n : Int) := by omega
        have HC : Hid (2 * j + 1 < n ∧ j < j1 ∧ j1 < n) := Lib.hid (by omega)
        have HST2 := HST
        clear hj1 hj2 hlt HLCH HST HJ1 HJ2 HB h2
        obtain ⟨v2, m2, c2⟩ := HH.out.less m wr j1 j HST2.out (by have := HML.out; have := HLN.out; have := HC.out; omega) (by have := HML.out; have := HLN.out; have := HC.out; omega)
        simp [go_sem, Made.depth] at m2
        have C2 := Lib.hid c2
        clear c2
        cases hb : lt (m.getD j1 d) (m.getD j d)
        · rw [hb] at C2
          have HDN : Hid (hdn lt d n (f + 1) m j = m) := Lib.hid (by unfold hdn; rw [if_neg (by have := HC.out; omega), HLC.out, hb]; rfl)
          clear hb
          go_wp2_with fail
          refine C2.out.mono ?_
          rintro e w8 ⟨rfl, hst⟩
          have HST3 := Lib.hid hst
          clear hst C2
          go_wp2_with fail
          go_ret
          exact ⟨decide (i < j), by (first | rfl | (congr 2; simp)), by rw [← HD.out, HDN.out]; exact HST3.out, fun h => by
            have h1 := of_decide_eq_false h
            rw [← HD.out, HDN.out]
            exact HJI.out (by have := HIJ.out; omega)⟩
        · rw [hb] at C2
          have HDN : Hid (hdn lt d n (f + 1) m j = hdn lt d n f (swq d m j j1) j1) := Lib.hid (by
            conv => lhs; unfold hdn
            rw [if_neg (by have := HC.out; omega), HLC.out, hb]; rfl)
          clear hb
          go_wp2_with fail
          refine C2.out.mono ?_
          rintro e w8 ⟨rfl, hst⟩
          obtain ⟨v3, m3, c3⟩ := HH.out.swap m w8 j j1 hst (by have := HML.out; have := HLN.out; have := HC.out; omega) (by have := HML.out; have := HLN.out; have := HC.out; omega)
          simp [go_sem, Made.depth] at m3
          have C3 := Lib.hid c3
          clear c3 hst C2 m2
          go_wp2_with fail
          refine C3.out.mono ?_
          rintro e w9 ⟨rfl, hst⟩
          have HST3 := Lib.hid hst
          clear hst C3 m3
          go_wp2_with fail
          go_roundw
          case rel => exact ⟨j1, f, swq d m j j1, rfl, by rw [← HDN.out, HD.out], HST3.out, by rw [swq_len, HML.out], by have := HNF.out; have := HC.out; omega, by have := HIJ.out; have := HC.out; omega, by have := HC.out; have := HLN.out; omega, fun h => by have := HIJ.out; have := HC.out; omega⟩
          case measure =>
            have := HC.out
            simp only [intOf, Int.toNat_natCast]
            omega
    · have hgeI : ¬ 2 * (j : Int) + 1 < (n : Int) := by omega
      have HDN : Hid (hdn lt d n f m j = m) := Lib.hid (by
        cases f with
        | zero => rfl
        | succ f => unfold hdn; rw [if_pos hge])
      clear hge
      go_wp2_with fail
      go_ret
      exact ⟨decide (i < j), by (first | rfl | (congr 2; simp)), by rw [← HD.out, HDN.out]; exact HST.out, fun h => by
        have h1 := of_decide_eq_false h
        rw [← HD.out, HDN.out]
        exact HJI.out (by have := HIJ.out; omega)⟩
end Go.Proofs.Ytnjohdgdmnkjlaa
