/- What attr's calls have to answer, they answer. -/
import Derived.Test.YthhjfedegbldfaeDoorAD
import Derived.Test.YthhjfedegbldfaeDoorPE
import Derived.Test.YthhjfedegbldfaeDoorPF
namespace Go.Proofs.YthhjfedegbldfaeDoor
open Go.RowKit

theorem nextSays : NextSays := fun s k w hk hs => Next_ok s k w hk hs
theorem allSays : AllSays := fun s k w hk hs => All_ok s k w hk hs
theorem chsSays : ChsSays := fun s w hs hM => Charset_ok s w hs hM
theorem nextErrs : NextErrs := fun s k w hs _ _ hE => Next_bad s k w hs hE
theorem allErrs : AllErrs := fun s k w hs _ _ hE => All_bad s k w hs hE
theorem chsErrs : ChsErrs := fun s w hs h _ => Charset_long s w hs h
theorem wf_bd {n : Int} (h : (Lit.int .i64 n).wf = true) : -9223372036854775808 ≤ n ∧ n < 9223372036854775808 := by
  simp only [Lit.wf] at h
  rw [Bool.and_eq_true, decide_eq_true_eq, decide_eq_true_eq, show IntKind.i64.min = -9223372036854775808 from rfl, show IntKind.i64.max = 9223372036854775807 from rfl] at h
  omega
end Go.Proofs.YthhjfedegbldfaeDoor
