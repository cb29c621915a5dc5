/-
  Plain facts: a message is read from its bytes, whatever follows; each beginning of them is too short.
-/
import Derived.Test.YtmbfghbhajmpiaaGreatNO
import Derived.Test.YtmbfghbhajmpiaaGreatMQ
namespace Go.Proofs.YtmbfghbhajmpiaaGreat
set_option linter.unusedVariables false

theorem takeP_app (x r : Bs) (f : Bool) : takeP x.length (x ++ r, f) = (x, (r, f)) := by
  unfold takeP
  rw [if_neg (by simp)]
  simp
theorem takeP_app' (k : Nat) (x r : Bs) (f : Bool) (h : x.length = k) : takeP k (x ++ r, f) = (x, (r, f)) := by subst h; exact takeP_app x r f
theorem numP_app (k n : Nat) (r : Bs) (f : Bool) (h : n < 256 ^ k) : numP k (bytesN k n ++ r, f) = (n, (r, f)) := by
  unfold numP
  rw [takeP_app' k _ _ _ (bytesN_len k n)]
  simp only [numF_bytesN]
  rw [Nat.mod_eq_of_lt h]
theorem textP_app (t r : Bs) (f : Bool) (h : t.length ≤ 65535) : textP (textB t ++ r, f) = (t, (r, f)) := by
  unfold textP textB
  rw [List.append_assoc, numP_app 2 t.length _ f (by omega)]
  exact takeP_app t r f
end Go.Proofs.YtmbfghbhajmpiaaGreat
