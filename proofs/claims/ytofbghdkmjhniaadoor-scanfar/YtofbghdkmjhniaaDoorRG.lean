/- The contracts of the reference's functions on labels: each returns what the plain function of its name computes; nothing that was there is written. Condition: at most 3000 bytes. What this seat's program lacks is left out. -/
import Derived.Test.YtofbghdkmjhniaaDoorMathL
import Derived.Test.YtofbghdkmjhniaaDoorBase
import Derived.Laws.IdiomStrings
import Derived.ProofKit
import Derived.WalkKit
import Derived.WalkSmall
namespace Go.Proofs.YtofbghdkmjhniaaDoor
open Go.RowKit
set_option linter.unusedVariables false

def szOf : Value → Nat
  | .string b => b.size
  | _ => 0

theorem bl_ne {r : ByteArray} (h : 0 < r.size) : bl r ≠ [] := fun e => by have := congrArg List.length e; rw [bl_len] at this; simp only [List.length_nil] at this; omega
theorem bl_last (r : ByteArray) (h : r.size - 1 < r.size) : bl r = (bl r).take (r.size - 1) ++ [(r[r.size - 1].toNat : Int)] := by
  have hl : (bl r).length = r.size - 1 + 1 := by rw [bl_len]; omega
  have hg := bl_get r (r.size - 1) h
  have this := List.take_succ_eq_append_getElem (l := bl r) (i := r.size - 1) (by omega)
  rw [List.take_of_length_le (by omega)] at this
  rw [List.getElem?_eq_getElem (by omega)] at hg
  rw [Option.some.inj hg] at this
  exact this

/-- What a round of FoldOf knows. -/
def InFo (s : ByteArray) (w wr : World) (k : Nat) (v : Value) : Prop :=
  wr.ownsRow w.heap.size 5 1 v (fdI ((bl s).take k)).length ((fdI ((bl s).take k)).map (Value.int .u8)) ∧ Below w.heap.size w wr

theorem InFo.step {s : ByteArray} {w wr w1 : World} {k : Nat} {v v1 : Value} (h : InFo s w wr k v) (hk : k < s.size) {c : Int} (hc : fI ((bl s).getD k 0) = c)
    (ho : w1.ownsRow w.heap.size 5 1 v1 (fdI ((bl s).take k) ++ [c]).length ((fdI ((bl s).take k) ++ [c]).map (Value.int .u8))) (hb : Below w.heap.size wr w1) : InFo s w w1 (k + 1) v1 := by
  have hk' : k < (bl s).length := by rw [bl_len]; exact hk
  have e : fdI ((bl s).take (k + 1)) = fdI ((bl s).take k) ++ [c] := by
    rw [List.take_succ_eq_append_getElem hk']; unfold fdI; rw [List.map_append, ← hc]; congr 1; simp [hk']
  exact ⟨by rw [e]; exact ho, h.2.trans hb⟩

end Go.Proofs.YtofbghdkmjhniaaDoor
