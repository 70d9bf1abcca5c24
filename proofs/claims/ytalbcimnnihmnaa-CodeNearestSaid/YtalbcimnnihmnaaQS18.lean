/-
  Contracts and plain facts that the laws share; each piece is headed by what it holds and its conditions.
-/
import Derived.Test.YtalbcimnnihmnaaQS5
import Derived.Test.YtalbcimnnihmnaaQS3
import Derived.Test.YtalbcimnnihmnaaQS17
import Derived.Deep.Cut
import Derived.Laws.AppendOwn
import Derived.Laws.OwnMore

/- container/heap's down, up, Init, over any value with methods: what they do to the list that it stands for. Conditions: its methods Len, Less and Swap do to the list what they say. -/
namespace Go.Proofs.Ytalbcimnnihmnaa
open Go.RowKit
open M
/-- What is asked of a value's methods: Less and Swap, of a list that lies in a world. -/
structure HM {α : Type} (lt : α → α → Bool) (d : α) (T : TypeId) (rv : Value) (gn gl gs : Nat) (St : List α → World → Prop) : Prop where
  en : ∀ args w, (callFunc gn args).run Try.prog w = .ok (.enter gn args) w
  el : ∀ args w, (callFunc gl args).run Try.prog w = .ok (.enter gl args) w
  es : ∀ args w, (callFunc gs args).run Try.prog w = .ok (.enter gs args) w
  len : ∀ l w, St l w → ∃ v, (method (Try.prog.types.size + Made.depth) T rv "Len").run Try.prog w = .ok (gn, v) w ∧ Calls Try.prog gn #[v] w fun e w' => e = .returned (.int .i64 (l.length : Int)) ∧ St l w'
  less : ∀ l w i j, St l w → i < l.length → j < l.length → ∃ v, (method (Try.prog.types.size + Made.depth) T rv "Less").run Try.prog w = .ok (gl, v) w ∧ Calls Try.prog gl #[v, .int .i64 (i : Int), .int .i64 (j : Int)] w fun e w' => e = .returned (.bool (lt (l.getD i d) (l.getD j d))) ∧ St l w'
  swap : ∀ l w i j, St l w → i < l.length → j < l.length → ∃ v, (method (Try.prog.types.size + Made.depth) T rv "Swap").run Try.prog w = .ok (gs, v) w ∧ Calls Try.prog gs #[v, .int .i64 (i : Int), .int .i64 (j : Int)] w fun e w' => e = .returned (.tuple #[]) ∧ St (swq d l i j) w'
/-- What down leaves: the list sifted down; false, if that is as it was. -/
def DnP {α : Type} (lt : α → α → Bool) (d : α) (n : Nat) (l : List α) (i : Nat) (St : List α → World → Prop) (e : Ending) (w' : World) : Prop :=
  ∃ b, e = .returned (.bool b) ∧ St (hdn lt d n n l i) w' ∧ (b = false → hdn lt d n n l i = l)
set_option maxRecDepth 100000 in
set_option maxHeartbeats 1000000 in
theorem down_any {α : Type} (lt : α → α → Bool) (d : α) (T : TypeId) (rv : Value) (gn gl gs : Nat) (St : List α → World → Prop) (H : HM lt d T rv gn gl gs St) (l : List α) (i n : Nat) (w : World) (hs : St l w) (hn : n ≤ l.length) (hl : l.length ≤ 1000000) (hi : i ≤ 1000000) :
    Calls Try.prog 57 #[.iface T rv, .int .i64 (i : Int), .int .i64 (n : Int)] w fun e w' => DnP lt d n l i St e w' := by
  have HS := Lib.hid hs
  have HH := Lib.hid H
  have eL := H.el
  have eS := H.es
  have hlI : (l.length : Int) ≤ 1000000 := by omega
  have hnI : (n : Int) ≤ 1000000 := by omega
  have hiI : (i : Int) ≤ 1000000 := by omega
  have HLN := Lib.hid hn
  clear hs H hn hl hi
  go_enter Try.func57, Try.ntmps57
  go_wp2
  go_loopw [7] (fun jj wr => ∃ (j f : Nat) (m : List α), jj = .int .i64 j ∧ hdn lt d n f m j = hdn lt d n n l i ∧ St m wr ∧ m.length = l.length ∧ n ≤ j + f ∧ i ≤ j ∧ j ≤ 1000000 ∧ (j = i → m = l)) (fun jj _ => n - (intOf jj).toNat)
  case atStart => exact ⟨i, n, l, rfl, rfl, HS.out, rfl, by omega, Nat.le_refl _, by omega, fun _ => rfl⟩
  case round =>
    clear HS
    obtain ⟨j, f, m, rfl, hd, hst, hml, hnf, hij, hjb, hji⟩ := hrel
    have hjI : (j : Int) ≤ 1000000 := by omega
    have HD := Lib.hid hd
    have HST := Lib.hid hst
    have HML := Lib.hid hml
    have HNF := Lib.hid hnf
    have HIJ := Lib.hid hij
    have HJI := Lib.hid hji
    clear hd hst hml hnf hij hji hjb
    rcases Nat.lt_or_ge (2 * j + 1) n with hlt | hge
    · obtain ⟨f, rfl⟩ : ∃ f', f = f' + 1 := ⟨f - 1, by have := HNF.out; omega⟩
      obtain ⟨j1, hj1⟩ : ∃ j1, j1 = 2 * j + 1 := ⟨_, rfl⟩
      obtain ⟨j2, hj2⟩ : ∃ j2, j2 = 2 * j + 2 := ⟨_, rfl⟩
      have e1 : 2 * (j : Int) + 1 = (j1 : Int) := by omega
      have e2 : (j1 : Int) + 1 = (j2 : Int) := by omega
      have hltI : (j1 : Int) < (n : Int) := by omega
      have HJ1 := Lib.hid hj1
      have HJ2 := Lib.hid hj2
      have HLCH : Hid (lch lt d m j n = if j2 < n ∧ lt (m.getD j2 d) (m.getD j1 d) = true then j2 else j1) := Lib.hid (by rw [hj1, hj2]; rfl)
      have HB : Hid (2 * j + 1 < n) := Lib.hid hlt
      by_cases h2 : j2 < n
      · have h2I : (j2 : Int) < (n : Int) := by omega
        obtain ⟨v1, m1, c1⟩ := HH.out.less m wr j2 j1 HST.out (by have := HML.out; have := HLN.out; omega) (by have := HML.out; have := HLN.out; omega)
        simp [go_sem, Made.depth] at m1
        have C1 := Lib.hid c1
        clear c1 hj1 hj2 hlt
        cases hc : lt (m.getD j2 d) (m.getD j1 d)
        · rw [hc] at C1
          have HLC := Lib.hid (show lch lt d m j n = j1 by rw [HLCH.out, hc]; exact if_neg (by simp))
          clear hc h2
          go_wp2_with fail
          refine C1.out.mono ?_
          rintro e w7 ⟨rfl, hst⟩
          have HST2 := Lib.hid hst
          have HC : Hid (2 * j + 1 < n ∧ j < j1 ∧ j1 < n) := Lib.hid (by have := HB.out; have := HJ1.out; omega)
          clear hst C1 m1 HLCH HST HJ1 HJ2 HB
          obtain ⟨v2, m2, c2⟩ := HH.out.less m w7 j1 j HST2.out (by have := HML.out; have := HLN.out; have := HC.out; omega) (by have := HML.out; have := HLN.out; have := HC.out; omega)
          simp [go_sem, Made.depth] at m2
          have C2 := Lib.hid c2
          clear c2
          cases hb : lt (m.getD j1 d) (m.getD j d)
          · rw [hb] at C2
            have HDN : Hid (hdn lt d n (f + 1) m j = m) := Lib.hid (by unfold hdn; rw [if_neg (by have := HC.out; omega), HLC.out, hb]; rfl)
            clear hb
            go_wp2_with fail
            refine C2.out.mono ?_
            rintro e w8 ⟨rfl, hst⟩
            have HST3 := Lib.hid hst
            clear hst C2
            go_wp2_with fail
            go_ret
            exact ⟨decide (i < j), by (first | rfl | (congr 2; simp)), by rw [← HD.out, HDN.out]; exact HST3.out, fun h => by
              have h1 := of_decide_eq_false h
              rw [← HD.out, HDN.out]
              exact HJI.out (by have := HIJ.out; omega)⟩
          · rw [hb] at C2
            have HDN : Hid (hdn lt d n (f + 1) m j = hdn lt d n f (swq d m j j1) j1) := Lib.hid (by
              conv => lhs; unfold hdn
              rw [if_neg (by have := HC.out; omega), HLC.out, hb]; rfl)
            clear hb
            go_wp2_with fail
            refine C2.out.mono ?_
            rintro e w8 ⟨rfl, hst⟩
            obtain ⟨v3, m3, c3⟩ := HH.out.swap m w8 j j1 hst (by have := HML.out; have := HLN.out; have := HC.out; omega) (by have := HML.out; have := HLN.out; have := HC.out; omega)
            simp [go_sem, Made.depth] at m3
            have C3 := Lib.hid c3
            clear c3 hst C2 m2
            go_wp2_with fail
            refine C3.out.mono ?_
            rintro e w9 ⟨rfl, hst⟩
            have HST3 := Lib.hid hst
            clear hst C3 m3
            go_wp2_with fail
            go_roundw
            case rel => exact ⟨j1, f, swq d m j j1, rfl, by rw [← HDN.out, HD.out], HST3.out, by rw [swq_len, HML.out], by have := HNF.out; have := HC.out; omega, by have := HIJ.out; have := HC.out; omega, by have := HC.out; have := HLN.out; omega, fun h => by have := HIJ.out; have := HC.out; omega⟩
            case measure =>
              have := HC.out
              simp only [intOf, Int.toNat_natCast]
              omega
        · rw [hc] at C1
          have HLC := Lib.hid (show lch lt d m j n = j2 by rw [HLCH.out, hc]; exact if_pos ⟨h2, rfl⟩)
          clear hc
          go_wp2_with fail
          refine C1.out.mono ?_
          rintro e w7 ⟨rfl, hst⟩
          have HST2 := Lib.hid hst
          have HC : Hid (2 * j + 1 < n ∧ j < j2 ∧ j2 < n) := Lib.hid (by have := HB.out; have := HJ2.out; omega)
          clear hst C1 m1 HLCH HST HJ1 HJ2 HB h2
          obtain ⟨v2, m2, c2⟩ := HH.out.less m w7 j2 j HST2.out (by have := HML.out; have := HLN.out; have := HC.out; omega) (by have := HML.out; have := HLN.out; have := HC.out; omega)
          simp [go_sem, Made.depth] at m2
          have C2 := Lib.hid c2
          clear c2
          cases hb : lt (m.getD j2 d) (m.getD j d)
          · rw [hb] at C2
            have HDN : Hid (hdn lt d n (f + 1) m j = m) := Lib.hid (by unfold hdn; rw [if_neg (by have := HC.out; omega), HLC.out, hb]; rfl)
            clear hb
            go_wp2_with fail
            refine C2.out.mono ?_
            rintro e w8 ⟨rfl, hst⟩
            have HST3 := Lib.hid hst
            clear hst C2
            go_wp2_with fail
            go_ret
            exact ⟨decide (i < j), by (first | rfl | (congr 2; simp)), by rw [← HD.out, HDN.out]; exact HST3.out, fun h => by
              have h1 := of_decide_eq_false h
              rw [← HD.out, HDN.out]
              exact HJI.out (by have := HIJ.out; omega)⟩
          · rw [hb] at C2
            have HDN : Hid (hdn lt d n (f + 1) m j = hdn lt d n f (swq d m j j2) j2) := Lib.hid (by
              conv => lhs; unfold hdn
              rw [if_neg (by have := HC.out; omega), HLC.out, hb]; rfl)
            clear hb
            go_wp2_with fail
            refine C2.out.mono ?_
            rintro e w8 ⟨rfl, hst⟩
            obtain ⟨v3, m3, c3⟩ := HH.out.swap m w8 j j2 hst (by have := HML.out; have := HLN.out; have := HC.out; omega) (by have := HML.out; have := HLN.out; have := HC.out; omega)
            simp [go_sem, Made.depth] at m3
            have C3 := Lib.hid c3
            clear c3 hst C2 m2
            go_wp2_with fail
            refine C3.out.mono ?_
            rintro e w9 ⟨rfl, hst⟩
            have HST3 := Lib.hid hst
            clear hst C3 m3
            go_wp2_with fail
            go_roundw
            case rel => exact ⟨j2, f, swq d m j j2, rfl, by rw [← HDN.out, HD.out], HST3.out, by rw [swq_len, HML.out], by have := HNF.out; have := HC.out; omega, by have := HIJ.out; have := HC.out; omega, by have := HC.out; have := HLN.out; omega, fun h => by have := HIJ.out; have := HC.out; omega⟩
            case measure =>
              have := HC.out
              simp only [intOf, Int.toNat_natCast]
              omega
      · have HLC := Lib.hid (show lch lt d m j n = j1 by rw [HLCH.out]; exact if_neg (fun h => h2 h.1))
        have h2I : ¬ (j2 : Int) < (n : Int) := by omega
        have HC : Hid (2 * j + 1 < n ∧ j < j1 ∧ j1 < n) := Lib.hid (by omega)
        have HST2 := HST
        clear hj1 hj2 hlt HLCH HST HJ1 HJ2 HB h2
        obtain ⟨v2, m2, c2⟩ := HH.out.less m wr j1 j HST2.out (by have := HML.out; have := HLN.out; have := HC.out; omega) (by have := HML.out; have := HLN.out; have := HC.out; omega)
        simp [go_sem, Made.depth] at m2
        have C2 := Lib.hid c2
        clear c2
        cases hb : lt (m.getD j1 d) (m.getD j d)
        · rw [hb] at C2
          have HDN : Hid (hdn lt d n (f + 1) m j = m) := Lib.hid (by unfold hdn; rw [if_neg (by have := HC.out; omega), HLC.out, hb]; rfl)
          clear hb
          go_wp2_with fail
          refine C2.out.mono ?_
          rintro e w8 ⟨rfl, hst⟩
          have HST3 := Lib.hid hst
          clear hst C2
          go_wp2_with fail
          go_ret
          exact ⟨decide (i < j), by (first | rfl | (congr 2; simp)), by rw [← HD.out, HDN.out]; exact HST3.out, fun h => by
            have h1 := of_decide_eq_false h
            rw [← HD.out, HDN.out]
            exact HJI.out (by have := HIJ.out; omega)⟩
        · rw [hb] at C2
          have HDN : Hid (hdn lt d n (f + 1) m j = hdn lt d n f (swq d m j j1) j1) := Lib.hid (by
            conv => lhs; unfold hdn
            rw [if_neg (by have := HC.out; omega), HLC.out, hb]; rfl)
          clear hb
          go_wp2_with fail
          refine C2.out.mono ?_
          rintro e w8 ⟨rfl, hst⟩
          obtain ⟨v3, m3, c3⟩ := HH.out.swap m w8 j j1 hst (by have := HML.out; have := HLN.out; have := HC.out; omega) (by have := HML.out; have := HLN.out; have := HC.out; omega)
          simp [go_sem, Made.depth] at m3
          have C3 := Lib.hid c3
          clear c3 hst C2 m2
          go_wp2_with fail
          refine C3.out.mono ?_
          rintro e w9 ⟨rfl, hst⟩
          have HST3 := Lib.hid hst
          clear hst C3 m3
          go_wp2_with fail
          go_roundw
          case rel => exact ⟨j1, f, swq d m j j1, rfl, by rw [← HDN.out, HD.out], HST3.out, by rw [swq_len, HML.out], by have := HNF.out; have := HC.out; omega, by have := HIJ.out; have := HC.out; omega, by have := HC.out; have := HLN.out; omega, fun h => by have := HIJ.out; have := HC.out; omega⟩
          case measure =>
            have := HC.out
            simp only [intOf, Int.toNat_natCast]
            omega
    · have hgeI : ¬ 2 * (j : Int) + 1 < (n : Int) := by omega
      have HDN : Hid (hdn lt d n f m j = m) := Lib.hid (by
        cases f with
        | zero => rfl
        | succ f => unfold hdn; rw [if_pos hge])
      clear hge
      go_wp2_with fail
      go_ret
      exact ⟨decide (i < j), by (first | rfl | (congr 2; simp)), by rw [← HD.out, HDN.out]; exact HST.out, fun h => by
        have h1 := of_decide_eq_false h
        rw [← HD.out, HDN.out]
        exact HJI.out (by have := HIJ.out; omega)⟩
end Go.Proofs.Ytalbcimnnihmnaa

/- container/heap's up, over any value with methods. Conditions: its methods do to the list that it stands for what they say. -/
namespace Go.Proofs.Ytalbcimnnihmnaa
open Go.RowKit
open M
def UpP {α : Type} (lt : α → α → Bool) (d : α) (l : List α) (j : Nat) (St : List α → World → Prop) (e : Ending) (w' : World) : Prop := e = .returned (.tuple #[]) ∧ St (hup lt d (l.length + 1) l j) w'
set_option maxRecDepth 100000 in
set_option maxHeartbeats 1000000 in
theorem up_any {α : Type} (lt : α → α → Bool) (d : α) (T : TypeId) (rv : Value) (gn gl gs : Nat) (St : List α → World → Prop) (H : HM lt d T rv gn gl gs St) (l : List α) (i : Nat) (w : World) (hs : St l w) (hi : i < l.length) (hl : l.length ≤ 1000000) :
    Calls Try.prog 51 #[.iface T rv, .int .i64 (i : Int)] w fun e w' => UpP lt d l i St e w' := by
  have HS := Lib.hid hs
  have HH := Lib.hid H
  have eL := H.el
  have eS := H.es
  have HLN := Lib.hid hi
  have HLB := Lib.hid hl
  clear hs H hi hl
  go_enter Try.func51, Try.ntmps51
  go_wp2
  go_loopw [1] (fun jj wr => ∃ (j f : Nat) (m : List α), jj = .int .i64 j ∧ hup lt d (f + 1) m j = hup lt d (l.length + 1) l i ∧ St m wr ∧ m.length = l.length ∧ j ≤ f ∧ j < l.length) (fun jj _ => (intOf jj).toNat)
  case atStart => exact ⟨i, l.length, l, rfl, rfl, HS.out, rfl, by have := HLN.out; omega, HLN.out⟩
  case round =>
    clear HS HLN
    obtain ⟨j, f, m, rfl, hd, hst, hml, hjf, hjl⟩ := hrel
    have hjI : (j : Int) ≤ 1000000 := by have := HLB.out; omega
    have HD := Lib.hid hd
    have HST := Lib.hid hst
    have HML := Lib.hid hml
    have HJF := Lib.hid hjf
    have HJL := Lib.hid hjl
    clear hd hst hml hjf hjl
    by_cases h0 : j = 0
    · subst h0
      have HDN : Hid (hup lt d (f + 1) m 0 = m) := Lib.hid (by unfold hup; exact if_pos rfl)
      go_wp2_with fail
      go_end0
      exact ⟨rfl, by rw [← HD.out, HDN.out]; exact HST.out⟩
    · obtain ⟨p, hp⟩ : ∃ p, p = pa j := ⟨_, rfl⟩
      have hpj : p < j := by unfold pa at hp; omega
      have ep : ((j : Int) - 1) / 2 = (p : Int) := by unfold pa at hp; omega
      have hj1 : (1 : Int) ≤ (j : Int) := by omega
      have hne : ((p : Int) == (j : Int)) = false := by rw [beq_eq_false_iff_ne]; omega
      have HP := Lib.hid hp
      have HPJ := Lib.hid hpj
      obtain ⟨v1, m1, c1⟩ := HH.out.less m wr j p HST.out (by have := HML.out; have := HJL.out; omega) (by have := HML.out; have := HJL.out; omega)
      simp [go_sem, Made.depth] at m1
      have C1 := Lib.hid c1
      clear c1 hp hpj h0
      cases hb : lt (m.getD j d) (m.getD p d)
      · rw [hb] at C1
        have HDN : Hid (hup lt d (f + 1) m j = m) := Lib.hid (by unfold hup; rw [if_neg (by have := HP.out; have := HPJ.out; omega), ← HP.out, hb]; rfl)
        clear hb
        go_wp2_with fail
        refine C1.out.mono ?_
        rintro e w7 ⟨rfl, hst⟩
        have HST2 := Lib.hid hst
        clear hst C1 HST
        go_wp2_with fail
        go_end0
        exact ⟨rfl, by rw [← HD.out, HDN.out]; exact HST2.out⟩
      · rw [hb] at C1
        obtain ⟨f, rfl⟩ : ∃ f', f = f' + 1 := ⟨f - 1, by have := HJF.out; have := HPJ.out; omega⟩
        have HDN : Hid (hup lt d (f + 1 + 1) m j = hup lt d (f + 1) (swq d m p j) p) := Lib.hid (by
          conv => lhs; unfold hup
          rw [if_neg (by have := HP.out; have := HPJ.out; omega), ← HP.out, hb]; rfl)
        clear hb
        go_wp2_with fail
        refine C1.out.mono ?_
        rintro e w7 ⟨rfl, hst⟩
        obtain ⟨v3, m3, c3⟩ := HH.out.swap m w7 p j hst (by have := HML.out; have := HJL.out; have := HPJ.out; omega) (by have := HML.out; have := HJL.out; omega)
        simp [go_sem, Made.depth] at m3
        have C3 := Lib.hid c3
        clear hst C1 HST c3 m1
        go_wp2_with fail
        refine C3.out.mono ?_
        rintro e w9 ⟨rfl, hst⟩
        have HST3 := Lib.hid hst
        clear hst C3 m3
        go_wp2_with fail
        go_roundw
        case rel => exact ⟨p, f, swq d m p j, rfl, by rw [← HDN.out, HD.out], HST3.out, by rw [swq_len, HML.out], by have := HJF.out; have := HPJ.out; omega, by have := HJL.out; have := HPJ.out; omega⟩
        case measure =>
          have := HPJ.out
          simp only [intOf, Int.toNat_natCast]
          omega
end Go.Proofs.Ytalbcimnnihmnaa

/- container/heap's Pop, Push, over any value with methods. Conditions: its methods do to the list that it stands for what they say. -/
namespace Go.Proofs.Ytalbcimnnihmnaa
open Go.RowKit
open M
/-- What Pop answers, and leaves. -/
def PoP {α : Type} (lt : α → α → Bool) (d : α) (enc : α → Value) (l : List α) (St : List α → World → Prop) (e : Ending) (w' : World) : Prop := e = .returned (enc ((hdn lt d (l.length - 1) (l.length - 1) (swq d l 0 (l.length - 1)) 0).getD (l.length - 1) d)) ∧ St ((hdn lt d (l.length - 1) (l.length - 1) (swq d l 0 (l.length - 1)) 0).take (l.length - 1)) w'
set_option maxRecDepth 100000 in
theorem pop_any {α : Type} (lt : α → α → Bool) (d : α) (T : TypeId) (rv : Value) (gn gl gs gp : Nat) (enc : α → Value) (St : List α → World → Prop) (H : HM lt d T rv gn gl gs St)
    (ep : ∀ args w, (callFunc gp args).run Try.prog w = .ok (.enter gp args) w)
    (HP : ∀ l w, St l w → 0 < l.length → ∃ v, (method (Try.prog.types.size + Made.depth) T rv "Pop").run Try.prog w = .ok (gp, v) w ∧ Calls Try.prog gp #[v] w fun e w' => e = .returned (enc (l.getD (l.length - 1) d)) ∧ St (l.take (l.length - 1)) w')
    (l : List α) (w : World) (hs : St l w) (h0 : 0 < l.length) (hl : l.length ≤ 1000000) :
    Calls Try.prog 50 #[.iface T rv] w fun e w' => PoP lt d enc l St e w' := by
  have HH := Lib.hid H
  have HPP := Lib.hid HP
  have eN := H.en
  have eS := H.es
  obtain ⟨v1, m1, c1⟩ := H.len l w hs
  simp [go_sem, Made.depth] at m1
  have C1 := Lib.hid c1
  have hlI : (l.length : Int) ≤ 1000000 := by omega
  obtain ⟨n, hn⟩ : ∃ n, l.length = n + 1 := ⟨l.length - 1, by omega⟩
  have HN := Lib.hid fun _ : Unit => hn
  rw [hn] at C1 hlI
  have en : ((n + 1 : Nat) : Int) - 1 = (n : Int) := by omega
  have hnI : (n : Int) ≤ 1000000 := by omega
  clear H c1 hl hs hn h0 HP
  go_enter Try.func50, Try.ntmps50
  go_wp2_with fail
  refine C1.out.mono ?_
  rintro e w1 ⟨rfl, hst⟩
  obtain ⟨v2, m2, c2⟩ := HH.out.swap l w1 0 n hst (by rw [HN.out ()]; omega) (by rw [HN.out ()]; omega)
  simp [go_sem, Made.depth] at m2
  have C2 := Lib.hid c2
  clear hst C1 m1 c2
  go_wp2_with fail
  refine C2.out.mono ?_
  rintro e w2 ⟨rfl, hst⟩
  have HD := Lib.hid (down_any lt d T rv gn gl gs St HH.out (swq d l 0 n) 0 n w2 hst (by rw [swq_len, HN.out ()]; omega) (by rw [swq_len, HN.out ()]; omega) (by omega))
  clear hst C2 m2
  go_wp2_with fail
  refine HD.out.mono ?_
  rintro e w3 ⟨b, rfl, hst, _⟩
  have hlen : (hdn lt d n n (swq d l 0 n) 0).length = n + 1 := by rw [hdn_len, swq_len, HN.out ()]
  obtain ⟨v3, m3, c3⟩ := HPP.out _ w3 hst (by rw [hlen]; omega)
  simp [go_sem, Made.depth] at m3
  rw [hlen, Nat.add_sub_cancel] at c3
  have C3 := Lib.hid c3
  clear hst HD hlen c3
  go_wp2_with fail
  refine C3.out.mono ?_
  rintro e w4 ⟨rfl, hst⟩
  have HS := Lib.hid hst
  clear hst C3 m3
  go_wp2_with fail
  go_ret
  unfold PoP
  rw [HN.out (), Nat.add_sub_cancel]
  exact ⟨rfl, HS.out⟩
/-- What Push leaves. -/
def PuP {α : Type} (lt : α → α → Bool) (d : α) (l : List α) (x : α) (St : List α → World → Prop) (e : Ending) (w' : World) : Prop := e = .returned (.tuple #[]) ∧ St (hup lt d (l.length + 1 + 1) (l ++ [x]) l.length) w'
set_option maxRecDepth 100000 in
theorem push_any {α : Type} (lt : α → α → Bool) (d : α) (T : TypeId) (rv X : Value) (gn gl gs gq : Nat) (St : List α → World → Prop) (H : HM lt d T rv gn gl gs St)
    (eq : ∀ args w, (callFunc gq args).run Try.prog w = .ok (.enter gq args) w) (l : List α) (x : α) (w : World)
    (HP : ∃ v, (method (Try.prog.types.size + Made.depth) T rv "Push").run Try.prog w = .ok (gq, v) w ∧ Calls Try.prog gq #[v, X] w fun e w' => e = .returned (.tuple #[]) ∧ St (l ++ [x]) w')
    (hl : l.length < 1000000) :
    Calls Try.prog 36 #[.iface T rv, X] w fun e w' => PuP lt d l x St e w' := by
  have HH := Lib.hid H
  have eN := H.en
  obtain ⟨v1, m1, c1⟩ := HP
  simp [go_sem, Made.depth] at m1
  have C1 := Lib.hid c1
  have hlI : (l.length : Int) < 1000000 := by omega
  have HLL := Lib.hid hl
  clear H c1 hl
  go_enter Try.func36, Try.ntmps36
  go_wp2_with fail
  refine C1.out.mono ?_
  rintro e w1 ⟨rfl, hst⟩
  obtain ⟨v2, m2, c2⟩ := HH.out.len _ w1 hst
  simp [go_sem, Made.depth] at m2
  rw [List.length_append, List.length_singleton] at c2
  have C2 := Lib.hid c2
  clear hst C1 m1 c2
  have en : ((l.length + 1 : Nat) : Int) - 1 = (l.length : Int) := by omega
  go_wp2_with fail
  refine C2.out.mono ?_
  rintro e w2 ⟨rfl, hst⟩
  have HU := Lib.hid (up_any lt d T rv gn gl gs St HH.out (l ++ [x]) l.length w2 hst (by simp) (by have := HLL.out; simp; omega))
  clear hst C2 m2
  go_wp2_with fail
  refine HU.out.mono ?_
  rintro e w3 ⟨rfl, hst⟩
  rw [List.length_append, List.length_singleton] at hst
  have HS := Lib.hid hst
  clear hst HU
  go_wp2_with fail
  go_end0
  exact ⟨rfl, HS.out⟩
end Go.Proofs.Ytalbcimnnihmnaa

/- pulse's queue: its methods, as container/heap calls them. Conditions: gains up to 32768, coefficients up to 2^22. -/
namespace Go.Proofs.Ytalbcimnnihmnaa
open Go.RowKit
open M
theorem wrap_nil {P : Program} (xt : TypeId) (a : Addr) (s m : String) (w : World) : (Builtin.ssaWrapNilChk_ #[xt] xt #[.pointer (some a), strVal s, strVal m]).run P w = .ok (.pointer (some a)) w := rfl
/-- A method that takes a value, called by a pointer. -/
theorem meth_val {P : Program} {T E : TypeId} {name : String} {f : FuncId} (hm : ((P.info? T).bind fun i => i.methods.find? (·.name == name)).map (fun m => (m.path.toList, m.func)) = some ([], some (f, false))) (hT : P.underlying T = some (.pointer E)) (w : World) (a : Addr) (v : Value)
    (hl : (loadVar E a).run P w = .ok v w) (k : Nat) : (method (k + 1) T (.pointer (some a)) name).run P w = .ok (f, v) w := by
  cases hi : P.info? T with
  | none => rw [hi] at hm; simp at hm
  | some i =>
    rw [hi] at hm
    simp only [Option.bind_some] at hm
    cases hf : i.methods.find? (·.name == name) with
    | none => rw [hf] at hm; simp at hm
    | some m =>
      rw [hf] at hm
      simp only [Option.map_some, Option.some.injEq, Prod.mk.injEq] at hm
      obtain ⟨h1, h2⟩ := hm
      have he : m.path = #[] := Array.toList_eq_nil_iff.1 h1
      simp [method, typeInfo, hi, hf, h2, he, follow, receiverAt, run_underlying hT, Place.get, wrap_nil, hl, asAddr]
/-- A method that takes a pointer. -/
theorem meth_ptr {P : Program} {T E : TypeId} {name : String} {f : FuncId} (hm : ((P.info? T).bind fun i => i.methods.find? (·.name == name)).map (fun m => (m.path.toList, m.func)) = some ([], some (f, true))) (hT : P.underlying T = some (.pointer E)) (w : World) (a : Addr) (k : Nat) :
    (method (k + 1) T (.pointer (some a)) name).run P w = .ok (f, .pointer (some a)) w := by
  cases hi : P.info? T with
  | none => rw [hi] at hm; simp at hm
  | some i =>
    rw [hi] at hm
    simp only [Option.bind_some] at hm
    cases hf : i.methods.find? (·.name == name) with
    | none => rw [hf] at hm; simp at hm
    | some m =>
      rw [hf] at hm
      simp only [Option.map_some, Option.some.injEq, Prod.mk.injEq] at hm
      obtain ⟨h1, h2⟩ := hm
      simp [method, typeInfo, hi, hf, h1, h2, follow, receiverAt, run_underlying hT, Place.get]
theorem m_len : ((Try.prog.info? 80).bind fun i => i.methods.find? (·.name == "Len")).map (fun m => (m.path.toList, m.func)) = some ([], some (80, false)) := by kernel_rfl
theorem m_less : ((Try.prog.info? 80).bind fun i => i.methods.find? (·.name == "Less")).map (fun m => (m.path.toList, m.func)) = some ([], some (81, false)) := by kernel_rfl
theorem m_swap : ((Try.prog.info? 80).bind fun i => i.methods.find? (·.name == "Swap")).map (fun m => (m.path.toList, m.func)) = some ([], some (84, false)) := by kernel_rfl
theorem m_pop : ((Try.prog.info? 80).bind fun i => i.methods.find? (·.name == "Pop")).map (fun m => (m.path.toList, m.func)) = some ([], some (82, true)) := by kernel_rfl
theorem m_push : ((Try.prog.info? 80).bind fun i => i.methods.find? (·.name == "Push")).map (fun m => (m.path.toList, m.func)) = some ([], some (83, true)) := by kernel_rfl
theorem load_slice {w : World} {a : Addr} {v : Value} (hc : w.cell? a = some v) : (loadVar 98 a).run Try.prog w = .ok v w := by
  simp [loadVar, hc, go_sem]
/-- The blocks that F names are as they were. -/
structure KF14 (F : Nat → Prop) (w0 w : World) : Prop where
  os : w.os = w0.os
  tape : w.tape = w0.tape
  output : w.output = w0.output
  size : w0.heap.size ≤ w.heap.size
  block : ∀ k, F k → w.heap[k]? = w0.heap[k]?
theorem KF14.refl (F : Nat → Prop) (w : World) : KF14 F w w := ⟨rfl, rfl, rfl, Nat.le_refl _, fun _ _ => rfl⟩
theorem KF14.below {B : Nat} {w0 w : World} (h : KF14 (· < B) w0 w) : Below B w0 w := ⟨h.os, h.tape, h.output, h.size, h.block⟩
theorem KF14.of {B : Nat} {w0 w : World} (h : Below B w0 w) : KF14 (· < B) w0 w := ⟨h.os, h.tape, h.output, h.size, h.block⟩
theorem KF14.more {F : Nat → Prop} {w0 w w' : World} (h : KF14 F w0 w) (hf : ∀ k, F k → k < w.heap.size) (hb : Below w.heap.size w w') : KF14 F w0 w' :=
  ⟨hb.os.trans h.os, hb.tape.trans h.tape, hb.output.trans h.output, Nat.le_trans h.size hb.size, fun k hk => (hb.block k (hf k hk)).trans (h.block k hk)⟩
theorem KF14.only {F : Nat → Prop} {w0 w w' : World} {g : Nat} (h : KF14 F w0 w) (hf : ¬ F g) (hb : Only g w w') : KF14 F w0 w' :=
  ⟨hb.os.trans h.os, hb.tape.trans h.tape, hb.output.trans h.output, Nat.le_trans h.size (Nat.le_of_eq hb.size.symm), fun k hk => (hb.block k (fun e => hf (by rw [← e]; exact hk))).trans (h.block k hk)⟩
theorem KF14.set {F : Nat → Prop} {w0 w : World} {p : Addr} (h : KF14 F w0 w) (hf : ¬ F p.block) (u : Value) : KF14 F w0 (w.setCell p u) := by
  have hs : (w.setCell p u).heap.size = w.heap.size := by simp [World.setCell]
  exact ⟨h.os, h.tape, h.output, by rw [hs]; exact h.size, fun k hk => (Below.heap_setCell w p u k (fun e => hf (by rw [← e]; exact hk))).trans (h.block k hk)⟩
/-- A queue lies behind a pointer, its coefficients in the block g; the blocks that F names stay. -/
structure QS14 (w0 : World) (F : Nat → Prop) (B h g : Nat) (G : Int) (l : List (Nat × Int)) (w : World) : Prop where
  v : ∃ cap, Row w h 98 #[.slice (some ⟨g, 0, none⟩) l.length cap] ∧ w.ownsRow B 83 3 (.slice (some ⟨g, 0, none⟩) l.length cap) l.length (qV G l)
  hb : B ≤ h
  fg : ¬ F g
  fh : ¬ F h
  fl : ∀ k, F k → k < w.heap.size
  be : KF14 F w0 w
  bd : ∀ p ∈ l, -4194304 ≤ p.2 ∧ p.2 ≤ 4194304
  ln : l.length ≤ 1000
theorem own_far14 {w : World} {B h n size : Nat} {e t : TypeId} {v x : Value} {xs : List Value} (hr : Row w h t #[x]) (ho : w.ownsRow B e size v n xs) (hne : e ≠ t) : v.ownBlock ≠ some h := by
  intro he
  rcases ho.2 with ⟨rfl, _⟩ | ⟨g2, cap2, cur2, rfl, _, hr2, _⟩
  · simp [Value.ownBlock] at he
  · simp only [Value.ownBlock, Option.some.injEq] at he
    subst he
    unfold Row at hr
    rw [hr] at hr2
    injection hr2 with hr2
    injection hr2 with _ hr2 _
    exact hne hr2.symm
theorem QS14.below {w0 w w' : World} {F : Nat → Prop} {B h g : Nat} {G : Int} {l : List (Nat × Int)} (H : QS14 w0 F B h g G l w) (hb : Below w.heap.size w w') : QS14 w0 F B h g G l w' := by
  obtain ⟨cap, hr, ho⟩ := H.v
  exact ⟨⟨cap, hr.box hb, own13_stay ho hb⟩, H.hb, H.fg, H.fh, fun k hk => Nat.lt_of_lt_of_le (H.fl k hk) hb.size, H.be.more H.fl hb, H.bd, H.ln⟩
theorem QS14.far {w0 w : World} {F : Nat → Prop} {B h g : Nat} {G : Int} {l : List (Nat × Int)} (H : QS14 w0 F B h g G l w) : g ≠ h ∧ B ≤ g ∧ g < w.heap.size ∧ h < w.heap.size := by
  obtain ⟨cap, hr, ho⟩ := H.v
  have hlt := ho.lt g rfl
  exact ⟨fun e => own_far14 hr ho (by decide) (by rw [← e]; rfl), hlt.1, hlt.2, hr.lt⟩
set_option maxRecDepth 100000 in
theorem QS14.hm {w0 : World} {F : Nat → Prop} {B h g : Nat} {G : Int} (d : Nat × Int) (h0 : 0 ≤ G) (h1 : G ≤ 32768) : HM (lt14 G) d 80 (.pointer (some ⟨h, 0, none⟩)) 80 81 84 (QS14 w0 F B h g G) where
  en := fun args w => by kernel_rfl
  el := fun args w => by kernel_rfl
  es := fun args w => by kernel_rfl
  len := fun l w H => by
    obtain ⟨cap, hr, ho⟩ := H.v
    refine ⟨_, meth_val m_len Try.underlying80 w ⟨h, 0, none⟩ _ (load_slice (cell_of_row _ _ 0 _ _ _ hr)) _, ?_⟩
    exact (qlen_any _ l.length cap w).mono fun e w' ⟨he, hw⟩ => ⟨he, by subst hw; exact H⟩
  less := fun l w i j H hi hj => by
    obtain ⟨cap, hr, ho⟩ := H.v
    refine ⟨_, meth_val m_less Try.underlying80 w ⟨h, 0, none⟩ _ (load_slice (cell_of_row _ _ 0 _ _ _ hr)) _, ?_⟩
    exact (less_any B g cap l.length G l d i j w h0 h1 H.bd hi hj ho).mono fun e w' ⟨he, hb⟩ => ⟨he, H.below hb⟩
  swap := fun l w i j H hi hj => by
    obtain ⟨cap, hr, ho⟩ := H.v
    refine ⟨_, meth_val m_swap Try.underlying80 w ⟨h, 0, none⟩ _ (load_slice (cell_of_row _ _ 0 _ _ _ hr)) _, ?_⟩
    obtain ⟨hne, hBg, _, _⟩ := H.far
    refine (swap_any B g cap l.length G l d i j w hi hj ho).mono fun e w' ⟨he, ho2, hon⟩ => ⟨he, ⟨⟨cap, ?_, by rw [swq_len]; exact ho2⟩, H.hb, H.fg, H.fh, fun k hk => Nat.lt_of_lt_of_eq (H.fl k hk) hon.size.symm, H.be.only H.fg hon, ?_, by rw [swq_len]; exact H.ln⟩⟩
    · rw [swq_len]
      exact (hon.block h (fun e => hne e.symm)).trans hr
    · intro p hp
      exact H.bd p ((swq_perm d l i j hi hj).mem_iff.1 hp)
/-- .. wherever its coefficients lie. -/
theorem HM.some {α β : Type} {lt : α → α → Bool} {d : α} {T : TypeId} {rv : Value} {gn gl gs : Nat} {St : β → List α → World → Prop} (H : ∀ b, HM lt d T rv gn gl gs (St b)) (b0 : β) : HM lt d T rv gn gl gs (fun l w => ∃ b, St b l w) where
  en := (H b0).en
  el := (H b0).el
  es := (H b0).es
  len := fun l w ⟨b, h⟩ => by
    obtain ⟨v, h1, h2⟩ := (H b).len l w h
    exact ⟨v, h1, h2.mono fun e w' ⟨he, hs⟩ => ⟨he, b, hs⟩⟩
  less := fun l w i j ⟨b, h⟩ hi hj => by
    obtain ⟨v, h1, h2⟩ := (H b).less l w i j h hi hj
    exact ⟨v, h1, h2.mono fun e w' ⟨he, hs⟩ => ⟨he, b, hs⟩⟩
  swap := fun l w i j ⟨b, h⟩ hi hj => by
    obtain ⟨v, h1, h2⟩ := (H b).swap l w i j h hi hj
    exact ⟨v, h1, h2.mono fun e w' ⟨he, hs⟩ => ⟨he, b, hs⟩⟩
end Go.Proofs.Ytalbcimnnihmnaa
