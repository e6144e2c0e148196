/- The contract of stream.Feed where it answers an error; nothing that was there is written. -/
import Derived.Test.YthhjfedegbldfacDG
namespace Go.Proofs.Ythhjfedegbldfac
open Go.RowKit
set_option linter.unusedVariables false

set_option maxHeartbeats 1000000 in
set_option maxRecDepth 100000 in
theorem feed_err (e : Int) (r : ByteArray) (t : M.St) (p : ByteArray) (last : Bool) (w : World) (hm : r.size ≤ maxLen) (hq : (chk e r t != 0) = true) :
    Calls Try.prog 19 #[sv e r t, .string p, .bool last] w fun e' w' => e' = .returned (.tuple #[.slice none 0 0, sv 0 ⟨#[]⟩ M.st0, .int .i64 (chk e r t)]) ∧ Below w.heap.size w w' := by
  have HC := fun w => check_any e r t w hm
  obtain ⟨q, HQ⟩ : ∃ q, Hid (chk e r t = q) := ⟨_, hide rfl⟩
  rw [unhide HQ] at HC hq
  rw [unhide HQ]
  unfold sv at *
  go_enter Try.func19, Try.ntmps19
  go_wp2_with fail
  refine (HC _).mono ?_
  rintro e' w1 ⟨rfl, hb1⟩
  have hR : Rc (w.heap.size + 1) w1 := Rc.below (w := (w.alloc (.cells #[.int .i64 e, .string r, .int .i64 t.1, .bool t.2.1, .bool t.2.2] 40)).alloc (.cells #[.int .i64 0, .string ⟨#[]⟩, .int .i64 0, .bool false, .bool false] 40)) (by constructor <;> simp [go_sem]) hb1 (by simp)
  have HB := hide (bstep (bstep (balloc _ _) (balloc _ _)) hb1)
  obtain ⟨b0, b1, b2, b3, b4, g0, g1, g2, g3, g4⟩ := hR
  have hlt : w.heap.size + 1 < w1.heap.size := World.block_lt_of_cell? w1 _ b0
  clear hb1 HC
  go_wp2_with fail
  refine bodyPost_ret (v := .tuple #[.slice none 0 0, .agg #[.int .i64 0, .string ⟨#[]⟩, .int .i64 M.st0.1, .bool M.st0.2.1, .bool M.st0.2.2], .int .i64 q]) (by simp [results, Try.results19, go_sem, b0, b1, b2, b3, b4, M.st0]) rfl ⟨rfl, ?_⟩
  exact bset5 (e := 0) (r := ⟨#[]⟩) (t := M.st0) (unhide HB) (by omega)
set_option maxHeartbeats 1000000 in
set_option maxRecDepth 100000 in
theorem feed_long (e : Int) (r : ByteArray) (t : M.St) (p : ByteArray) (last : Bool) (w : World) (hm : r.size ≤ maxLen) (hq : chk e r t = 0) (hp : 3000 < p.size) (hpm : p.size ≤ maxLen) :
    Calls Try.prog 19 #[sv e r t, .string p, .bool last] w fun e' w' => e' = .returned (.tuple #[.slice none 0 0, sv 0 ⟨#[]⟩ M.st0, .int .i64 2]) ∧ Below w.heap.size w w' := by
  have HC := fun w => check_any e r t w hm
  rw [hq] at HC
  clear hq
  unfold maxLen at hpm
  have hpI : (3000 : Int) < (p.size : Int) := by omega
  unfold sv at *
  go_enter Try.func19, Try.ntmps19
  go_wp2_with fail
  refine (HC _).mono ?_
  rintro e' w1 ⟨rfl, hb1⟩
  have hR : Rc (w.heap.size + 1) w1 := Rc.below (w := (w.alloc (.cells #[.int .i64 e, .string r, .int .i64 t.1, .bool t.2.1, .bool t.2.2] 40)).alloc (.cells #[.int .i64 0, .string ⟨#[]⟩, .int .i64 0, .bool false, .bool false] 40)) (by constructor <;> simp [go_sem]) hb1 (by simp)
  have HB := hide (bstep (bstep (balloc _ _) (balloc _ _)) hb1)
  obtain ⟨b0, b1, b2, b3, b4, g0, g1, g2, g3, g4⟩ := hR
  have hlt : w.heap.size + 1 < w1.heap.size := World.block_lt_of_cell? w1 _ b0
  clear hb1 HC
  go_wp2_with fail
  refine bodyPost_ret (v := .tuple #[.slice none 0 0, .agg #[.int .i64 0, .string ⟨#[]⟩, .int .i64 M.st0.1, .bool M.st0.2.1, .bool M.st0.2.2], .int .i64 2]) (by simp [results, Try.results19, go_sem, b0, b1, b2, b3, b4, M.st0]) rfl ⟨rfl, ?_⟩
  exact bset5 (e := 0) (r := ⟨#[]⟩) (t := M.st0) (unhide HB) (by omega)
end Go.Proofs.Ythhjfedegbldfac
