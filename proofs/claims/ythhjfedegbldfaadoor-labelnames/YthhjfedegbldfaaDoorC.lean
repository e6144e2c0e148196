/- The contracts of label.Fold and of the tables of labels. -/
import Derived.Test.YthhjfedegbldfaaDoorB
namespace Go.Proofs.YthhjfedegbldfaaDoor
open Go.RowKit
set_option linter.unusedVariables false

set_option maxHeartbeats 400000 in
set_option maxRecDepth 100000 in
theorem Fold_ok (s : ByteArray) (w : World) (hs : s.size ≤ 3000) :
    Calls Tryd.prog 6 #[.string s] w fun e w' => e = .returned (.tuple #[.string (strOfNums (fdI (bl s))), .int .i64 0]) ∧ Below w.heap.size w w' := by
  have HC := hide (fun w => fold_any s w hs)
  generalize strOfNums (fdI (bl s)) = r at HC ⊢
  go_enter Tryd.func6, Tryd.ntmps6
  go_wp2_with (first | (go_at_call 20; refine (unhide HC _).mono ?_; rintro e w1 ⟨rfl, hb⟩) | go_in)
  go_ret2
  exact ⟨rfl, by assumption⟩

set_option maxHeartbeats 400000 in
set_option maxRecDepth 100000 in
theorem Fold_long (s : ByteArray) (w : World) (hs : 3000 < s.size) (hm : s.size ≤ maxLen) :
    Calls Tryd.prog 6 #[.string s] w fun e w' => e = .returned (.tuple #[.string ⟨#[]⟩, .int .i64 2]) ∧ w' = w := by
  unfold maxLen at hm
  go_enter Tryd.func6, Tryd.ntmps6
  go_wp2
  go_ret2
  exact ⟨rfl, rfl⟩

/-- The cells of a table. -/
def tabCells (l : List (ByteArray × Int)) : Array Value := (l.flatMap fun x => [.string x.1, .int .i64 x.2]).toArray
/-- The table l lies at block b. -/
def Tab (w : World) (b : Nat) (l : List (ByteArray × Int)) : Prop :=
  ∀ i (h : i < l.length), w.cell? ⟨b, i * 2, none⟩ = some (.string l[i].1) ∧ w.cell? ⟨b, i * 2 + 1, none⟩ = some (.int .i64 l[i].2)

theorem tabCells_at : ∀ (l : List (ByteArray × Int)) (i : Nat) (h : i < l.length), (l.flatMap fun x => [Value.string x.1, Value.int .i64 x.2])[i * 2]? = some (.string l[i].1) ∧ (l.flatMap fun x => [Value.string x.1, Value.int .i64 x.2])[i * 2 + 1]? = some (.int .i64 l[i].2) := by
  intro l
  induction l with
  | nil => intro i h; simp at h
  | cons x t ih =>
    intro i h
    cases i with
    | zero => simp
    | succ i =>
      have := ih i (by simpa using h)
      have e1 : (i + 1) * 2 = i * 2 + 2 := by omega
      rw [e1]
      simpa [List.flatMap_cons] using this

theorem Tab.new (w : World) (l : List (ByteArray × Int)) (t : TypeId) : Tab (w.alloc (.cells (tabCells l) t)) w.heap.size l := by
  intro i h
  have := tabCells_at l i h
  rw [World.cell?_alloc_at _ _ _ _ rfl, World.cell?_alloc_at _ _ _ _ rfl]
  unfold tabCells
  simpa using this
theorem Tab.below {w w' : World} {b : Nat} {l : List (ByteArray × Int)} (h : Tab w b l) (hb : Below w.heap.size w w') : Tab w' b l := by
  intro i hi
  obtain ⟨h1, h2⟩ := h i hi
  exact ⟨(hb.cell (p := ⟨b, i * 2, none⟩) (World.block_lt_of_cell? w _ h1)).trans h1, (hb.cell (p := ⟨b, i * 2 + 1, none⟩) (World.block_lt_of_cell? w _ h2)).trans h2⟩

def labs : List (ByteArray × Int) := [(⟨#[117, 110, 105, 99, 111, 100, 101, 45, 49, 45, 49, 45, 117, 116, 102, 45, 56]⟩, 1), (⟨#[117, 116, 102, 45, 56]⟩, 1), (⟨#[117, 116, 102, 56]⟩, 1), (⟨#[117, 116, 102, 45, 49, 54]⟩, 2), (⟨#[117, 116, 102, 45, 49, 54, 108, 101]⟩, 2), (⟨#[117, 110, 105, 99, 111, 100, 101]⟩, 2), (⟨#[117, 116, 102, 45, 49, 54, 98, 101]⟩, 3), (⟨#[117, 110, 105, 99, 111, 100, 101, 102, 102, 102, 101]⟩, 3), (⟨#[119, 105, 110, 100, 111, 119, 115, 45, 49, 50, 53, 50]⟩, 4), (⟨#[99, 112, 49, 50, 53, 50]⟩, 4), (⟨#[105, 115, 111, 45, 56, 56, 53, 57, 45, 49]⟩, 4), (⟨#[108, 97, 116, 105, 110, 49]⟩, 4), (⟨#[97, 115, 99, 105, 105]⟩, 4), (⟨#[117, 115, 45, 97, 115, 99, 105, 105]⟩, 4), (⟨#[108, 49]⟩, 4), (⟨#[120, 45, 117, 115, 101, 114, 45, 100, 101, 102, 105, 110, 101, 100]⟩, 5), (⟨#[105, 115, 111, 45, 50, 48, 50, 50, 45, 106, 112]⟩, 6), (⟨#[99, 115, 105, 115, 111, 50, 48, 50, 50, 106, 112]⟩, 6), (⟨#[114, 101, 112, 108, 97, 99, 101, 109, 101, 110, 116]⟩, 7), (⟨#[104, 122, 45, 103, 98, 45, 50, 51, 49, 50]⟩, 7), (⟨#[105, 115, 111, 45, 50, 48, 50, 50, 45, 107, 114]⟩, 7), (⟨#[105, 115, 111, 45, 50, 48, 50, 50, 45, 99, 110]⟩, 7)]
/-- The label that is told of each encoding. -/
def tolds : List (ByteArray × Int) := [(⟨#[117, 116, 102, 45, 56]⟩, 1), (⟨#[117, 116, 102, 45, 49, 54, 108, 101]⟩, 2), (⟨#[117, 116, 102, 45, 49, 54, 98, 101]⟩, 3), (⟨#[119, 105, 110, 100, 111, 119, 115, 45, 49, 50, 53, 50]⟩, 4), (⟨#[120, 45, 117, 115, 101, 114, 45, 100, 101, 102, 105, 110, 101, 100]⟩, 5), (⟨#[105, 115, 111, 45, 50, 48, 50, 50, 45, 106, 112]⟩, 6), (⟨#[114, 101, 112, 108, 97, 99, 101, 109, 101, 110, 116]⟩, 7)]

set_option maxHeartbeats 1000000 in
set_option maxRecDepth 100000 in
theorem Labels_any (w : World) : Calls Tryd.prog 24 #[] w fun e w' => e = .returned (.slice (some ⟨w.heap.size, 0, none⟩) 22 22) ∧ w' = w.alloc (.cells (tabCells labs) 39) := by
  go_enter Tryd.func24, Tryd.ntmps24
  go_wp2
  go_ret
  exact ⟨rfl, rfl⟩

set_option maxHeartbeats 1000000 in
set_option maxRecDepth 100000 in
theorem told_any (w : World) : Calls Tryd.prog 26 #[] w fun e w' => e = .returned (.slice (some ⟨w.heap.size, 0, none⟩) 7 7) ∧ w' = w.alloc (.cells (tabCells tolds) 39) := by
  go_enter Tryd.func26, Tryd.ntmps26
  go_wp2
  go_ret
  exact ⟨rfl, rfl⟩
end Go.Proofs.YthhjfedegbldfaaDoor
