/-
  How great a turned pair is (bounds of both numbers). No conditions but those that each fact names.
-/
import Derived.Test.YtpfdjddjoclldaaREf
namespace Go.Proofs.Ytpfdjddjoclldaa
open Go.RowKit
open M
theorem lft_bd {B : Int} {v : Int × Int} (h : Bd B v) (h0 : 0 ≤ B) (k : Int) : Bd (8 * B + 7) (lft v k) := by
  rw [← tS_lft]
  obtain ⟨f1, f2, f3, f4⟩ := bgF_bd k
  have h1 := h.ln (z := 1) h0 ⟨f1, f2⟩ (Or.inl rfl) (bgS_or k)
  have h2 := h1.rs (z := 1) (by omega) ⟨f3, f4⟩ (Or.inl rfl) (bgS_or k)
  have h3 := h2.ln (z := 1) (by omega) ⟨f1, f2⟩ (Or.inl rfl) (bgS_or k)
  exact (h3.spn (Or.inl rfl) _).more (by omega)
theorem lfb_bd {B : Int} {v : Int × Int} (h : Bd B v) (h0 : 0 ≤ B) (k : Int) : Bd (8 * B + 7) (lfb v k) := by
  rw [← bS_lfb]
  obtain ⟨f1, f2, f3, f4⟩ := bgF_bd k
  have h0 := h.spn (z := -1) (Or.inr rfl) (bgN k)
  have h1 := h0.ln (z := -1) (by omega) ⟨f1, f2⟩ (Or.inr rfl) (bgS_or k)
  have h2 := h1.rs (z := -1) (by omega) ⟨f3, f4⟩ (Or.inr rfl) (bgS_or k)
  have h3 := h2.ln (z := -1) (by omega) ⟨f1, f2⟩ (Or.inr rfl) (bgS_or k)
  exact h3.more (by omega)
end Go.Proofs.Ytpfdjddjoclldaa
