/- Plain functions on lists of integers: which integers are scalars, and the bytes of one. No condition. -/
import Derived.Test.YtpjhcecfcjbgoaaMath
namespace Go.Proofs.Ytpjhcecfcjbgoaa.M
def sclr (n : Int) : Bool := decide (0 ≤ n ∧ n ≤ 1114111 ∧ (n < 55296 ∨ 57343 < n))
def enc1 (n : Int) : List Int :=
  if n < 128 then [n] else if n < 2048 then [192 + n / 64, 128 + n % 64]
  else if n < 65536 then [224 + n / 4096, 128 + n / 64 % 64, 128 + n % 64]
  else [240 + n / 262144, 128 + n / 4096 % 64, 128 + n / 64 % 64, 128 + n % 64]
def enc (l : List Int) : List Int := l.flatMap enc1
theorem enc_snoc (l : List Int) (n : Int) : enc (l ++ [n]) = enc l ++ enc1 n := by simp [enc]
theorem enc1_len (n : Int) : 1 ≤ (enc1 n).length ∧ (enc1 n).length ≤ 4 := by
  unfold enc1; split <;> (try split) <;> (try split) <;> simp
theorem enc_len (l : List Int) : (enc l).length ≤ 4 * l.length := by
  induction l with
  | nil => simp [enc]
  | cons n l ih => have := enc1_len n; simp only [enc, List.flatMap_cons, List.length_append, List.length_cons] at *; omega
end Go.Proofs.Ytpjhcecfcjbgoaa.M
