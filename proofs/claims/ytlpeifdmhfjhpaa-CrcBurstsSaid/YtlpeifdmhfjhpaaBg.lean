/-
  What the walks of layers with texts of bytes share besides (on XBh): a slice of bytes made a string. No conditions.
-/
import Derived.Test.YtlpeifdmhfjhpaaBh
namespace Go.Proofs.Ytlpeifdmhfjhpaa
open Go.RowKit
open M

theorem run_conv (w : World) (g off cap n : Nat) (l : List UInt8) (hn : l.length = n) (h : ∀ i (hi : i < l.length), w.cell? ⟨g, off + i, none⟩ = some (.int .u8 (l[i].toNat : Int))) :
    (convert 24 9 (.slice (some ⟨g, off, none⟩) n cap)).run Try.prog w = .ok (.string (ofB l)) w := by
  have := run_convert_bytes_arg (P := Try.prog) w 24 5 Try.underlying24 Try.underlying5 g off n cap (l.map fun b => (b.toNat : Int)) (by simpa using hn)
    (fun i hi => by
      have hi' : i < l.length := by omega
      rw [h i hi']
      simp [hi']) 9 Try.underlying9
  rw [this]
  rw [strOfNums_ofB]
theorem byte_info : (Try.prog.info? 5).map (fun i => (i.zero, i.size, i.bytes)) = some (some (.int .u8 0), 1, 1) := by kernel_rfl
end Go.Proofs.Ytlpeifdmhfjhpaa
