/-
  The opener of a byte.
-/
import Derived.Test.YthpajecigkfajaaGD
namespace Go.Proofs.Ythpajecigkfajaa
open Go.ChangeShapes Go.WideShapes Go.ChangeAt Go.RowKit Go.Deep
def IsU8 (_w : World) (v : Value) (n : Nat) : Prop := v = .int .u8 n ∧ n < 256
section
variable {H : Type} {enc : TypeId × Value → H} {W : World} {base : Nat} {r : Reach} {v : Value} {d : DataW H} {p : List MemPlace}
set_option maxRecDepth 100000 in
theorem open_u8 (hval : Value.okWide Try.prog W r base 5 v) (hd : DataW.Trod enc Try.prog W 0 (fun _ => true) true 5 v d p) : ∃ n : Nat, IsU8 W v n := by
  obtain ⟨n, rfl, _, _, hn⟩ := open_int Try.underlying5 hval hd
  have hb := bounds_u8 hn
  exact ⟨n.toNat, by rw [Int.toNat_of_nonneg hb.1], by omega⟩
end

end Go.Proofs.Ythpajecigkfajaa
