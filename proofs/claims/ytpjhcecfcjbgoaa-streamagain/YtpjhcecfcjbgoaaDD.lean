/- The contract of stream.Check: whether a state may be between two pieces, and why not; nothing that was there is written. -/
import Derived.Test.YtpjhcecfcjbgoaaDC
import Derived.Deep.RegionHeld3
namespace Go.Proofs.Ytpjhcecfcjbgoaa
open Go.RowKit
set_option linter.unusedVariables false

/-- A state as a value. -/
def sv (e : Int) (r : ByteArray) (t : M.St) : Value := .agg #[.int .i64 e, .string r, .int .i64 t.1, .bool t.2.1, .bool t.2.2]

set_option maxHeartbeats 800000 in
set_option maxRecDepth 100000 in
theorem check_kind (e : Int) (r : ByteArray) (g : Int) (fr st : Bool) (w : World) (he : ¬ (1 ≤ e ∧ e ≤ 7)) :
    Calls Try.prog 10 #[.agg #[.int .i64 e, .string r, .int .i64 g, .bool fr, .bool st]] w fun e' w' => e' = .returned (.int .i64 6) ∧ Below w.heap.size w w' := by
  have H := fun w => kind_no e w he
  go_enter Try.func10, Try.ntmps10
  go_wp2_with fail
  refine (H _).mono ?_
  rintro e' w1 ⟨rfl, hb⟩
  have HB := hide (bstep (balloc _ _) hb)
  clear hb H
  go_wp2_with fail
  go_ret
  exact ⟨rfl, unhide HB⟩

set_option maxHeartbeats 1600000 in
set_option maxRecDepth 100000 in
theorem check_form (e : Int) (r : ByteArray) (g : Int) (fr st : Bool) (w : World) (n : Int) (hm : r.size ≤ maxLen) (he : 1 ≤ e ∧ e ≤ 7) (HW : ∀ w : World, Calls Try.prog 20 #[.int .i64 e, .string r] w fun e' w' => e' = .returned (.int .i64 n) ∧ Below w.heap.size w w') (hn : (n != (r.size : Int)) = true) :
    Calls Try.prog 10 #[.agg #[.int .i64 e, .string r, .int .i64 g, .bool fr, .bool st]] w fun e' w' => e' = .returned (.int .i64 1) ∧ Below w.heap.size w w' := by
  have H := fun w => kind_yes e w he
  unfold maxLen at hm
  go_enter Try.func10, Try.ntmps10
  go_wp2_with fail
  refine (H _).mono ?_
  rintro e' w1 ⟨rfl, hb1⟩
  have HB1 := hide (bstep (balloc _ _) hb1)
  have c0 : w1.cell? ⟨w.heap.size, 0, none⟩ = some (.int .i64 e) := (hb1.cell (p := ⟨w.heap.size, 0, none⟩) (by simp)).trans (by simp [go_sem])
  have c1 : w1.cell? ⟨w.heap.size, 1, none⟩ = some (.string r) := (hb1.cell (p := ⟨w.heap.size, 1, none⟩) (by simp)).trans (by simp [go_sem])
  have c2 : w1.cell? ⟨w.heap.size, 2, none⟩ = some (.int .i64 g) := (hb1.cell (p := ⟨w.heap.size, 2, none⟩) (by simp)).trans (by simp [go_sem])
  have c3 : w1.cell? ⟨w.heap.size, 3, none⟩ = some (.bool fr) := (hb1.cell (p := ⟨w.heap.size, 3, none⟩) (by simp)).trans (by simp [go_sem])
  have c4 : w1.cell? ⟨w.heap.size, 4, none⟩ = some (.bool st) := (hb1.cell (p := ⟨w.heap.size, 4, none⟩) (by simp)).trans (by simp [go_sem])
  have hlt : w.heap.size < w1.heap.size := World.block_lt_of_cell? w1 _ c0
  clear hb1 H
  go_wp2_with fail
  go_region_held3 (fun w' => w'.cell? ⟨w.heap.size, 0, none⟩ = some (.int .i64 e) ∧ w'.cell? ⟨w.heap.size, 1, none⟩ = some (.string r))
    (first | go_keep | (go_split_ands; refine ⟨(hb2.cell (p := ⟨w.heap.size, 0, none⟩) hlt).trans c0, (hb2.cell (p := ⟨w.heap.size, 1, none⟩) hlt).trans c1⟩))
    ((go_at_call 20; refine (HW _).mono ?_; rintro e' w2 ⟨rfl, hb2⟩))
  have HB2 := hide (bstep (unhide HB1) ((below_drewN (Below.refl _ w1) 1).trans hb2))
  have d0 : w2.cell? ⟨w.heap.size, 0, none⟩ = some (.int .i64 e) := (hb2.cell (p := ⟨w.heap.size, 0, none⟩) hlt).trans c0
  have d1 : w2.cell? ⟨w.heap.size, 1, none⟩ = some (.string r) := (hb2.cell (p := ⟨w.heap.size, 1, none⟩) hlt).trans c1
  have d2 : w2.cell? ⟨w.heap.size, 2, none⟩ = some (.int .i64 g) := (hb2.cell (p := ⟨w.heap.size, 2, none⟩) hlt).trans c2
  have d3 : w2.cell? ⟨w.heap.size, 3, none⟩ = some (.bool fr) := (hb2.cell (p := ⟨w.heap.size, 3, none⟩) hlt).trans c3
  have d4 : w2.cell? ⟨w.heap.size, 4, none⟩ = some (.bool st) := (hb2.cell (p := ⟨w.heap.size, 4, none⟩) hlt).trans c4
  have hlt2 : w.heap.size < w2.heap.size := World.block_lt_of_cell? w2 _ d0
  clear hb2
  go_wp2_with fail
  go_ret
  exact ⟨rfl, unhide HB2⟩

set_option maxHeartbeats 1600000 in
set_option maxRecDepth 100000 in
theorem check_low (e : Int) (r : ByteArray) (g : Int) (fr st : Bool) (w : World) (n : Int) (hm : r.size ≤ maxLen) (he : 1 ≤ e ∧ e ≤ 7) (HW : ∀ w : World, Calls Try.prog 20 #[.int .i64 e, .string r] w fun e' w' => e' = .returned (.int .i64 n) ∧ Below w.heap.size w w') (hn : (n != (r.size : Int)) = false) (hg : g < 0) :
    Calls Try.prog 10 #[.agg #[.int .i64 e, .string r, .int .i64 g, .bool fr, .bool st]] w fun e' w' => e' = .returned (.int .i64 4) ∧ Below w.heap.size w w' := by
  have H := fun w => kind_yes e w he
  unfold maxLen at hm
  go_enter Try.func10, Try.ntmps10
  go_wp2_with fail
  refine (H _).mono ?_
  rintro e' w1 ⟨rfl, hb1⟩
  have HB1 := hide (bstep (balloc _ _) hb1)
  have c0 : w1.cell? ⟨w.heap.size, 0, none⟩ = some (.int .i64 e) := (hb1.cell (p := ⟨w.heap.size, 0, none⟩) (by simp)).trans (by simp [go_sem])
  have c1 : w1.cell? ⟨w.heap.size, 1, none⟩ = some (.string r) := (hb1.cell (p := ⟨w.heap.size, 1, none⟩) (by simp)).trans (by simp [go_sem])
  have c2 : w1.cell? ⟨w.heap.size, 2, none⟩ = some (.int .i64 g) := (hb1.cell (p := ⟨w.heap.size, 2, none⟩) (by simp)).trans (by simp [go_sem])
  have c3 : w1.cell? ⟨w.heap.size, 3, none⟩ = some (.bool fr) := (hb1.cell (p := ⟨w.heap.size, 3, none⟩) (by simp)).trans (by simp [go_sem])
  have c4 : w1.cell? ⟨w.heap.size, 4, none⟩ = some (.bool st) := (hb1.cell (p := ⟨w.heap.size, 4, none⟩) (by simp)).trans (by simp [go_sem])
  have hlt : w.heap.size < w1.heap.size := World.block_lt_of_cell? w1 _ c0
  clear hb1 H
  go_wp2_with fail
  go_region_held3 (fun w' => w'.cell? ⟨w.heap.size, 0, none⟩ = some (.int .i64 e) ∧ w'.cell? ⟨w.heap.size, 1, none⟩ = some (.string r))
    (first | go_keep | (go_split_ands; refine ⟨(hb2.cell (p := ⟨w.heap.size, 0, none⟩) hlt).trans c0, (hb2.cell (p := ⟨w.heap.size, 1, none⟩) hlt).trans c1⟩))
    ((go_at_call 20; refine (HW _).mono ?_; rintro e' w2 ⟨rfl, hb2⟩))
  have HB2 := hide (bstep (unhide HB1) ((below_drewN (Below.refl _ w1) 1).trans hb2))
  have d0 : w2.cell? ⟨w.heap.size, 0, none⟩ = some (.int .i64 e) := (hb2.cell (p := ⟨w.heap.size, 0, none⟩) hlt).trans c0
  have d1 : w2.cell? ⟨w.heap.size, 1, none⟩ = some (.string r) := (hb2.cell (p := ⟨w.heap.size, 1, none⟩) hlt).trans c1
  have d2 : w2.cell? ⟨w.heap.size, 2, none⟩ = some (.int .i64 g) := (hb2.cell (p := ⟨w.heap.size, 2, none⟩) hlt).trans c2
  have d3 : w2.cell? ⟨w.heap.size, 3, none⟩ = some (.bool fr) := (hb2.cell (p := ⟨w.heap.size, 3, none⟩) hlt).trans c3
  have d4 : w2.cell? ⟨w.heap.size, 4, none⟩ = some (.bool st) := (hb2.cell (p := ⟨w.heap.size, 4, none⟩) hlt).trans c4
  have hlt2 : w.heap.size < w2.heap.size := World.block_lt_of_cell? w2 _ d0
  clear hb2
  go_wp2_with fail
  go_ret
  exact ⟨rfl, unhide HB2⟩

set_option maxHeartbeats 1600000 in
set_option maxRecDepth 100000 in
theorem check_high (e : Int) (r : ByteArray) (g : Int) (fr st : Bool) (w : World) (n : Int) (hm : r.size ≤ maxLen) (he : 1 ≤ e ∧ e ≤ 7) (HW : ∀ w : World, Calls Try.prog 20 #[.int .i64 e, .string r] w fun e' w' => e' = .returned (.int .i64 n) ∧ Below w.heap.size w w') (hn : (n != (r.size : Int)) = false) (hg : 2 < g) :
    Calls Try.prog 10 #[.agg #[.int .i64 e, .string r, .int .i64 g, .bool fr, .bool st]] w fun e' w' => e' = .returned (.int .i64 4) ∧ Below w.heap.size w w' := by
  have H := fun w => kind_yes e w he
  unfold maxLen at hm
  go_enter Try.func10, Try.ntmps10
  go_wp2_with fail
  refine (H _).mono ?_
  rintro e' w1 ⟨rfl, hb1⟩
  have HB1 := hide (bstep (balloc _ _) hb1)
  have c0 : w1.cell? ⟨w.heap.size, 0, none⟩ = some (.int .i64 e) := (hb1.cell (p := ⟨w.heap.size, 0, none⟩) (by simp)).trans (by simp [go_sem])
  have c1 : w1.cell? ⟨w.heap.size, 1, none⟩ = some (.string r) := (hb1.cell (p := ⟨w.heap.size, 1, none⟩) (by simp)).trans (by simp [go_sem])
  have c2 : w1.cell? ⟨w.heap.size, 2, none⟩ = some (.int .i64 g) := (hb1.cell (p := ⟨w.heap.size, 2, none⟩) (by simp)).trans (by simp [go_sem])
  have c3 : w1.cell? ⟨w.heap.size, 3, none⟩ = some (.bool fr) := (hb1.cell (p := ⟨w.heap.size, 3, none⟩) (by simp)).trans (by simp [go_sem])
  have c4 : w1.cell? ⟨w.heap.size, 4, none⟩ = some (.bool st) := (hb1.cell (p := ⟨w.heap.size, 4, none⟩) (by simp)).trans (by simp [go_sem])
  have hlt : w.heap.size < w1.heap.size := World.block_lt_of_cell? w1 _ c0
  clear hb1 H
  go_wp2_with fail
  go_region_held3 (fun w' => w'.cell? ⟨w.heap.size, 0, none⟩ = some (.int .i64 e) ∧ w'.cell? ⟨w.heap.size, 1, none⟩ = some (.string r))
    (first | go_keep | (go_split_ands; refine ⟨(hb2.cell (p := ⟨w.heap.size, 0, none⟩) hlt).trans c0, (hb2.cell (p := ⟨w.heap.size, 1, none⟩) hlt).trans c1⟩))
    ((go_at_call 20; refine (HW _).mono ?_; rintro e' w2 ⟨rfl, hb2⟩))
  have HB2 := hide (bstep (unhide HB1) ((below_drewN (Below.refl _ w1) 1).trans hb2))
  have d0 : w2.cell? ⟨w.heap.size, 0, none⟩ = some (.int .i64 e) := (hb2.cell (p := ⟨w.heap.size, 0, none⟩) hlt).trans c0
  have d1 : w2.cell? ⟨w.heap.size, 1, none⟩ = some (.string r) := (hb2.cell (p := ⟨w.heap.size, 1, none⟩) hlt).trans c1
  have d2 : w2.cell? ⟨w.heap.size, 2, none⟩ = some (.int .i64 g) := (hb2.cell (p := ⟨w.heap.size, 2, none⟩) hlt).trans c2
  have d3 : w2.cell? ⟨w.heap.size, 3, none⟩ = some (.bool fr) := (hb2.cell (p := ⟨w.heap.size, 3, none⟩) hlt).trans c3
  have d4 : w2.cell? ⟨w.heap.size, 4, none⟩ = some (.bool st) := (hb2.cell (p := ⟨w.heap.size, 4, none⟩) hlt).trans c4
  have hlt2 : w.heap.size < w2.heap.size := World.block_lt_of_cell? w2 _ d0
  clear hb2
  go_wp2_with fail
  go_ret
  exact ⟨rfl, unhide HB2⟩

set_option maxHeartbeats 1600000 in
set_option maxRecDepth 100000 in
theorem check_signs (e : Int) (r : ByteArray) (g : Int) (fr st : Bool) (w : World) (n : Int) (hm : r.size ≤ maxLen) (he : 1 ≤ e ∧ e ≤ 7) (HW : ∀ w : World, Calls Try.prog 20 #[.int .i64 e, .string r] w fun e' w' => e' = .returned (.int .i64 n) ∧ Below w.heap.size w w') (hn : (n != (r.size : Int)) = false) (hg0 : 0 ≤ g) (hg2 : g ≤ 2) (h6 : (e != 6) = true) (hg : (g != 0) = true) :
    Calls Try.prog 10 #[.agg #[.int .i64 e, .string r, .int .i64 g, .bool fr, .bool st]] w fun e' w' => e' = .returned (.int .i64 4) ∧ Below w.heap.size w w' := by
  have H := fun w => kind_yes e w he
  unfold maxLen at hm
  go_enter Try.func10, Try.ntmps10
  go_wp2_with fail
  refine (H _).mono ?_
  rintro e' w1 ⟨rfl, hb1⟩
  have HB1 := hide (bstep (balloc _ _) hb1)
  have c0 : w1.cell? ⟨w.heap.size, 0, none⟩ = some (.int .i64 e) := (hb1.cell (p := ⟨w.heap.size, 0, none⟩) (by simp)).trans (by simp [go_sem])
  have c1 : w1.cell? ⟨w.heap.size, 1, none⟩ = some (.string r) := (hb1.cell (p := ⟨w.heap.size, 1, none⟩) (by simp)).trans (by simp [go_sem])
  have c2 : w1.cell? ⟨w.heap.size, 2, none⟩ = some (.int .i64 g) := (hb1.cell (p := ⟨w.heap.size, 2, none⟩) (by simp)).trans (by simp [go_sem])
  have c3 : w1.cell? ⟨w.heap.size, 3, none⟩ = some (.bool fr) := (hb1.cell (p := ⟨w.heap.size, 3, none⟩) (by simp)).trans (by simp [go_sem])
  have c4 : w1.cell? ⟨w.heap.size, 4, none⟩ = some (.bool st) := (hb1.cell (p := ⟨w.heap.size, 4, none⟩) (by simp)).trans (by simp [go_sem])
  have hlt : w.heap.size < w1.heap.size := World.block_lt_of_cell? w1 _ c0
  clear hb1 H
  go_wp2_with fail
  go_region_held3 (fun w' => w'.cell? ⟨w.heap.size, 0, none⟩ = some (.int .i64 e) ∧ w'.cell? ⟨w.heap.size, 1, none⟩ = some (.string r))
    (first | go_keep | (go_split_ands; refine ⟨(hb2.cell (p := ⟨w.heap.size, 0, none⟩) hlt).trans c0, (hb2.cell (p := ⟨w.heap.size, 1, none⟩) hlt).trans c1⟩))
    ((go_at_call 20; refine (HW _).mono ?_; rintro e' w2 ⟨rfl, hb2⟩))
  have HB2 := hide (bstep (unhide HB1) ((below_drewN (Below.refl _ w1) 1).trans hb2))
  have d0 : w2.cell? ⟨w.heap.size, 0, none⟩ = some (.int .i64 e) := (hb2.cell (p := ⟨w.heap.size, 0, none⟩) hlt).trans c0
  have d1 : w2.cell? ⟨w.heap.size, 1, none⟩ = some (.string r) := (hb2.cell (p := ⟨w.heap.size, 1, none⟩) hlt).trans c1
  have d2 : w2.cell? ⟨w.heap.size, 2, none⟩ = some (.int .i64 g) := (hb2.cell (p := ⟨w.heap.size, 2, none⟩) hlt).trans c2
  have d3 : w2.cell? ⟨w.heap.size, 3, none⟩ = some (.bool fr) := (hb2.cell (p := ⟨w.heap.size, 3, none⟩) hlt).trans c3
  have d4 : w2.cell? ⟨w.heap.size, 4, none⟩ = some (.bool st) := (hb2.cell (p := ⟨w.heap.size, 4, none⟩) hlt).trans c4
  have hlt2 : w.heap.size < w2.heap.size := World.block_lt_of_cell? w2 _ d0
  clear hb2
  go_wp2_with fail
  go_ret
  exact ⟨rfl, unhide HB2⟩

set_option maxHeartbeats 1600000 in
set_option maxRecDepth 100000 in
theorem check_fresh (e : Int) (r : ByteArray) (g : Int) (fr st : Bool) (w : World) (n : Int) (hm : r.size ≤ maxLen) (he : 1 ≤ e ∧ e ≤ 7) (HW : ∀ w : World, Calls Try.prog 20 #[.int .i64 e, .string r] w fun e' w' => e' = .returned (.int .i64 n) ∧ Below w.heap.size w w') (hn : (n != (r.size : Int)) = false) (h6 : (e != 6) = true) (hg : g = 0) (hf : fr = true) :
    Calls Try.prog 10 #[.agg #[.int .i64 e, .string r, .int .i64 g, .bool fr, .bool st]] w fun e' w' => e' = .returned (.int .i64 4) ∧ Below w.heap.size w w' := by
  have H := fun w => kind_yes e w he
  unfold maxLen at hm
  subst hg hf
  go_enter Try.func10, Try.ntmps10
  go_wp2_with fail
  refine (H _).mono ?_
  rintro e' w1 ⟨rfl, hb1⟩
  have HB1 := hide (bstep (balloc _ _) hb1)
  have c0 : w1.cell? ⟨w.heap.size, 0, none⟩ = some (.int .i64 e) := (hb1.cell (p := ⟨w.heap.size, 0, none⟩) (by simp)).trans (by simp [go_sem])
  have c1 : w1.cell? ⟨w.heap.size, 1, none⟩ = some (.string r) := (hb1.cell (p := ⟨w.heap.size, 1, none⟩) (by simp)).trans (by simp [go_sem])
  have c2 : w1.cell? ⟨w.heap.size, 2, none⟩ = some (.int .i64 0) := (hb1.cell (p := ⟨w.heap.size, 2, none⟩) (by simp)).trans (by simp [go_sem])
  have c3 : w1.cell? ⟨w.heap.size, 3, none⟩ = some (.bool true) := (hb1.cell (p := ⟨w.heap.size, 3, none⟩) (by simp)).trans (by simp [go_sem])
  have c4 : w1.cell? ⟨w.heap.size, 4, none⟩ = some (.bool st) := (hb1.cell (p := ⟨w.heap.size, 4, none⟩) (by simp)).trans (by simp [go_sem])
  have hlt : w.heap.size < w1.heap.size := World.block_lt_of_cell? w1 _ c0
  clear hb1 H
  go_wp2_with fail
  go_region_held3 (fun w' => w'.cell? ⟨w.heap.size, 0, none⟩ = some (.int .i64 e) ∧ w'.cell? ⟨w.heap.size, 1, none⟩ = some (.string r))
    (first | go_keep | (go_split_ands; refine ⟨(hb2.cell (p := ⟨w.heap.size, 0, none⟩) hlt).trans c0, (hb2.cell (p := ⟨w.heap.size, 1, none⟩) hlt).trans c1⟩))
    ((go_at_call 20; refine (HW _).mono ?_; rintro e' w2 ⟨rfl, hb2⟩))
  have HB2 := hide (bstep (unhide HB1) ((below_drewN (Below.refl _ w1) 1).trans hb2))
  have d0 : w2.cell? ⟨w.heap.size, 0, none⟩ = some (.int .i64 e) := (hb2.cell (p := ⟨w.heap.size, 0, none⟩) hlt).trans c0
  have d1 : w2.cell? ⟨w.heap.size, 1, none⟩ = some (.string r) := (hb2.cell (p := ⟨w.heap.size, 1, none⟩) hlt).trans c1
  have d2 : w2.cell? ⟨w.heap.size, 2, none⟩ = some (.int .i64 0) := (hb2.cell (p := ⟨w.heap.size, 2, none⟩) hlt).trans c2
  have d3 : w2.cell? ⟨w.heap.size, 3, none⟩ = some (.bool true) := (hb2.cell (p := ⟨w.heap.size, 3, none⟩) hlt).trans c3
  have d4 : w2.cell? ⟨w.heap.size, 4, none⟩ = some (.bool st) := (hb2.cell (p := ⟨w.heap.size, 4, none⟩) hlt).trans c4
  have hlt2 : w.heap.size < w2.heap.size := World.block_lt_of_cell? w2 _ d0
  clear hb2
  go_wp2_with fail
  go_ret
  exact ⟨rfl, unhide HB2⟩

set_option maxHeartbeats 1600000 in
set_option maxRecDepth 100000 in
theorem check_stopk (e : Int) (r : ByteArray) (g : Int) (fr st : Bool) (w : World) (n : Int) (hm : r.size ≤ maxLen) (he : 1 ≤ e ∧ e ≤ 7) (HW : ∀ w : World, Calls Try.prog 20 #[.int .i64 e, .string r] w fun e' w' => e' = .returned (.int .i64 n) ∧ Below w.heap.size w w') (hn : (n != (r.size : Int)) = false) (h6 : e = 6) (hg0 : 0 ≤ g) (hg2 : g ≤ 2) (hs : st = true) :
    Calls Try.prog 10 #[.agg #[.int .i64 e, .string r, .int .i64 g, .bool fr, .bool st]] w fun e' w' => e' = .returned (.int .i64 4) ∧ Below w.heap.size w w' := by
  have H := fun w => kind_yes e w he
  unfold maxLen at hm
  subst h6 hs
  go_enter Try.func10, Try.ntmps10
  go_wp2_with fail
  refine (H _).mono ?_
  rintro e' w1 ⟨rfl, hb1⟩
  have HB1 := hide (bstep (balloc _ _) hb1)
  have c0 : w1.cell? ⟨w.heap.size, 0, none⟩ = some (.int .i64 6) := (hb1.cell (p := ⟨w.heap.size, 0, none⟩) (by simp)).trans (by simp [go_sem])
  have c1 : w1.cell? ⟨w.heap.size, 1, none⟩ = some (.string r) := (hb1.cell (p := ⟨w.heap.size, 1, none⟩) (by simp)).trans (by simp [go_sem])
  have c2 : w1.cell? ⟨w.heap.size, 2, none⟩ = some (.int .i64 g) := (hb1.cell (p := ⟨w.heap.size, 2, none⟩) (by simp)).trans (by simp [go_sem])
  have c3 : w1.cell? ⟨w.heap.size, 3, none⟩ = some (.bool fr) := (hb1.cell (p := ⟨w.heap.size, 3, none⟩) (by simp)).trans (by simp [go_sem])
  have c4 : w1.cell? ⟨w.heap.size, 4, none⟩ = some (.bool true) := (hb1.cell (p := ⟨w.heap.size, 4, none⟩) (by simp)).trans (by simp [go_sem])
  have hlt : w.heap.size < w1.heap.size := World.block_lt_of_cell? w1 _ c0
  clear hb1 H
  go_wp2_with fail
  go_region_held3 (fun w' => w'.cell? ⟨w.heap.size, 0, none⟩ = some (.int .i64 6) ∧ w'.cell? ⟨w.heap.size, 1, none⟩ = some (.string r))
    (first | go_keep | (go_split_ands; refine ⟨(hb2.cell (p := ⟨w.heap.size, 0, none⟩) hlt).trans c0, (hb2.cell (p := ⟨w.heap.size, 1, none⟩) hlt).trans c1⟩))
    ((go_at_call 20; refine (HW _).mono ?_; rintro e' w2 ⟨rfl, hb2⟩))
  have HB2 := hide (bstep (unhide HB1) ((below_drewN (Below.refl _ w1) 1).trans hb2))
  have d0 : w2.cell? ⟨w.heap.size, 0, none⟩ = some (.int .i64 6) := (hb2.cell (p := ⟨w.heap.size, 0, none⟩) hlt).trans c0
  have d1 : w2.cell? ⟨w.heap.size, 1, none⟩ = some (.string r) := (hb2.cell (p := ⟨w.heap.size, 1, none⟩) hlt).trans c1
  have d2 : w2.cell? ⟨w.heap.size, 2, none⟩ = some (.int .i64 g) := (hb2.cell (p := ⟨w.heap.size, 2, none⟩) hlt).trans c2
  have d3 : w2.cell? ⟨w.heap.size, 3, none⟩ = some (.bool fr) := (hb2.cell (p := ⟨w.heap.size, 3, none⟩) hlt).trans c3
  have d4 : w2.cell? ⟨w.heap.size, 4, none⟩ = some (.bool true) := (hb2.cell (p := ⟨w.heap.size, 4, none⟩) hlt).trans c4
  have hlt2 : w.heap.size < w2.heap.size := World.block_lt_of_cell? w2 _ d0
  clear hb2
  go_wp2_with fail
  go_ret
  exact ⟨rfl, unhide HB2⟩

set_option maxHeartbeats 1600000 in
set_option maxRecDepth 100000 in
theorem check_stopo (e : Int) (r : ByteArray) (g : Int) (fr st : Bool) (w : World) (n : Int) (hm : r.size ≤ maxLen) (he : 1 ≤ e ∧ e ≤ 7) (HW : ∀ w : World, Calls Try.prog 20 #[.int .i64 e, .string r] w fun e' w' => e' = .returned (.int .i64 n) ∧ Below w.heap.size w w') (hn : (n != (r.size : Int)) = false) (h6 : (e != 6) = true) (h7 : (e != 7) = true) (hg : g = 0) (hf : fr = false) (hs : st = true) :
    Calls Try.prog 10 #[.agg #[.int .i64 e, .string r, .int .i64 g, .bool fr, .bool st]] w fun e' w' => e' = .returned (.int .i64 4) ∧ Below w.heap.size w w' := by
  have H := fun w => kind_yes e w he
  unfold maxLen at hm
  subst hg hf hs
  go_enter Try.func10, Try.ntmps10
  go_wp2_with fail
  refine (H _).mono ?_
  rintro e' w1 ⟨rfl, hb1⟩
  have HB1 := hide (bstep (balloc _ _) hb1)
  have c0 : w1.cell? ⟨w.heap.size, 0, none⟩ = some (.int .i64 e) := (hb1.cell (p := ⟨w.heap.size, 0, none⟩) (by simp)).trans (by simp [go_sem])
  have c1 : w1.cell? ⟨w.heap.size, 1, none⟩ = some (.string r) := (hb1.cell (p := ⟨w.heap.size, 1, none⟩) (by simp)).trans (by simp [go_sem])
  have c2 : w1.cell? ⟨w.heap.size, 2, none⟩ = some (.int .i64 0) := (hb1.cell (p := ⟨w.heap.size, 2, none⟩) (by simp)).trans (by simp [go_sem])
  have c3 : w1.cell? ⟨w.heap.size, 3, none⟩ = some (.bool false) := (hb1.cell (p := ⟨w.heap.size, 3, none⟩) (by simp)).trans (by simp [go_sem])
  have c4 : w1.cell? ⟨w.heap.size, 4, none⟩ = some (.bool true) := (hb1.cell (p := ⟨w.heap.size, 4, none⟩) (by simp)).trans (by simp [go_sem])
  have hlt : w.heap.size < w1.heap.size := World.block_lt_of_cell? w1 _ c0
  clear hb1 H
  go_wp2_with fail
  go_region_held3 (fun w' => w'.cell? ⟨w.heap.size, 0, none⟩ = some (.int .i64 e) ∧ w'.cell? ⟨w.heap.size, 1, none⟩ = some (.string r))
    (first | go_keep | (go_split_ands; refine ⟨(hb2.cell (p := ⟨w.heap.size, 0, none⟩) hlt).trans c0, (hb2.cell (p := ⟨w.heap.size, 1, none⟩) hlt).trans c1⟩))
    ((go_at_call 20; refine (HW _).mono ?_; rintro e' w2 ⟨rfl, hb2⟩))
  have HB2 := hide (bstep (unhide HB1) ((below_drewN (Below.refl _ w1) 1).trans hb2))
  have d0 : w2.cell? ⟨w.heap.size, 0, none⟩ = some (.int .i64 e) := (hb2.cell (p := ⟨w.heap.size, 0, none⟩) hlt).trans c0
  have d1 : w2.cell? ⟨w.heap.size, 1, none⟩ = some (.string r) := (hb2.cell (p := ⟨w.heap.size, 1, none⟩) hlt).trans c1
  have d2 : w2.cell? ⟨w.heap.size, 2, none⟩ = some (.int .i64 0) := (hb2.cell (p := ⟨w.heap.size, 2, none⟩) hlt).trans c2
  have d3 : w2.cell? ⟨w.heap.size, 3, none⟩ = some (.bool false) := (hb2.cell (p := ⟨w.heap.size, 3, none⟩) hlt).trans c3
  have d4 : w2.cell? ⟨w.heap.size, 4, none⟩ = some (.bool true) := (hb2.cell (p := ⟨w.heap.size, 4, none⟩) hlt).trans c4
  have hlt2 : w.heap.size < w2.heap.size := World.block_lt_of_cell? w2 _ d0
  clear hb2
  go_wp2_with fail
  go_ret
  exact ⟨rfl, unhide HB2⟩

set_option maxHeartbeats 1600000 in
set_option maxRecDepth 100000 in
theorem check_okk (e : Int) (r : ByteArray) (g : Int) (fr st : Bool) (w : World) (n : Int) (hm : r.size ≤ maxLen) (he : 1 ≤ e ∧ e ≤ 7) (HW : ∀ w : World, Calls Try.prog 20 #[.int .i64 e, .string r] w fun e' w' => e' = .returned (.int .i64 n) ∧ Below w.heap.size w w') (hn : (n != (r.size : Int)) = false) (h6 : e = 6) (hg0 : 0 ≤ g) (hg2 : g ≤ 2) (hs : st = false) :
    Calls Try.prog 10 #[.agg #[.int .i64 e, .string r, .int .i64 g, .bool fr, .bool st]] w fun e' w' => e' = .returned (.int .i64 0) ∧ Below w.heap.size w w' := by
  have H := fun w => kind_yes e w he
  unfold maxLen at hm
  subst h6 hs
  go_enter Try.func10, Try.ntmps10
  go_wp2_with fail
  refine (H _).mono ?_
  rintro e' w1 ⟨rfl, hb1⟩
  have HB1 := hide (bstep (balloc _ _) hb1)
  have c0 : w1.cell? ⟨w.heap.size, 0, none⟩ = some (.int .i64 6) := (hb1.cell (p := ⟨w.heap.size, 0, none⟩) (by simp)).trans (by simp [go_sem])
  have c1 : w1.cell? ⟨w.heap.size, 1, none⟩ = some (.string r) := (hb1.cell (p := ⟨w.heap.size, 1, none⟩) (by simp)).trans (by simp [go_sem])
  have c2 : w1.cell? ⟨w.heap.size, 2, none⟩ = some (.int .i64 g) := (hb1.cell (p := ⟨w.heap.size, 2, none⟩) (by simp)).trans (by simp [go_sem])
  have c3 : w1.cell? ⟨w.heap.size, 3, none⟩ = some (.bool fr) := (hb1.cell (p := ⟨w.heap.size, 3, none⟩) (by simp)).trans (by simp [go_sem])
  have c4 : w1.cell? ⟨w.heap.size, 4, none⟩ = some (.bool false) := (hb1.cell (p := ⟨w.heap.size, 4, none⟩) (by simp)).trans (by simp [go_sem])
  have hlt : w.heap.size < w1.heap.size := World.block_lt_of_cell? w1 _ c0
  clear hb1 H
  go_wp2_with fail
  go_region_held3 (fun w' => w'.cell? ⟨w.heap.size, 0, none⟩ = some (.int .i64 6) ∧ w'.cell? ⟨w.heap.size, 1, none⟩ = some (.string r))
    (first | go_keep | (go_split_ands; refine ⟨(hb2.cell (p := ⟨w.heap.size, 0, none⟩) hlt).trans c0, (hb2.cell (p := ⟨w.heap.size, 1, none⟩) hlt).trans c1⟩))
    ((go_at_call 20; refine (HW _).mono ?_; rintro e' w2 ⟨rfl, hb2⟩))
  have HB2 := hide (bstep (unhide HB1) ((below_drewN (Below.refl _ w1) 1).trans hb2))
  have d0 : w2.cell? ⟨w.heap.size, 0, none⟩ = some (.int .i64 6) := (hb2.cell (p := ⟨w.heap.size, 0, none⟩) hlt).trans c0
  have d1 : w2.cell? ⟨w.heap.size, 1, none⟩ = some (.string r) := (hb2.cell (p := ⟨w.heap.size, 1, none⟩) hlt).trans c1
  have d2 : w2.cell? ⟨w.heap.size, 2, none⟩ = some (.int .i64 g) := (hb2.cell (p := ⟨w.heap.size, 2, none⟩) hlt).trans c2
  have d3 : w2.cell? ⟨w.heap.size, 3, none⟩ = some (.bool fr) := (hb2.cell (p := ⟨w.heap.size, 3, none⟩) hlt).trans c3
  have d4 : w2.cell? ⟨w.heap.size, 4, none⟩ = some (.bool false) := (hb2.cell (p := ⟨w.heap.size, 4, none⟩) hlt).trans c4
  have hlt2 : w.heap.size < w2.heap.size := World.block_lt_of_cell? w2 _ d0
  clear hb2
  go_wp2_with fail
  go_ret
  exact ⟨rfl, unhide HB2⟩

set_option maxHeartbeats 1600000 in
set_option maxRecDepth 100000 in
theorem check_okx (e : Int) (r : ByteArray) (g : Int) (fr st : Bool) (w : World) (n : Int) (hm : r.size ≤ maxLen) (he : 1 ≤ e ∧ e ≤ 7) (HW : ∀ w : World, Calls Try.prog 20 #[.int .i64 e, .string r] w fun e' w' => e' = .returned (.int .i64 n) ∧ Below w.heap.size w w') (hn : (n != (r.size : Int)) = false) (h7 : e = 7) (hg : g = 0) (hf : fr = false) :
    Calls Try.prog 10 #[.agg #[.int .i64 e, .string r, .int .i64 g, .bool fr, .bool st]] w fun e' w' => e' = .returned (.int .i64 0) ∧ Below w.heap.size w w' := by
  have H := fun w => kind_yes e w he
  unfold maxLen at hm
  subst h7 hg hf
  go_enter Try.func10, Try.ntmps10
  go_wp2_with fail
  refine (H _).mono ?_
  rintro e' w1 ⟨rfl, hb1⟩
  have HB1 := hide (bstep (balloc _ _) hb1)
  have c0 : w1.cell? ⟨w.heap.size, 0, none⟩ = some (.int .i64 7) := (hb1.cell (p := ⟨w.heap.size, 0, none⟩) (by simp)).trans (by simp [go_sem])
  have c1 : w1.cell? ⟨w.heap.size, 1, none⟩ = some (.string r) := (hb1.cell (p := ⟨w.heap.size, 1, none⟩) (by simp)).trans (by simp [go_sem])
  have c2 : w1.cell? ⟨w.heap.size, 2, none⟩ = some (.int .i64 0) := (hb1.cell (p := ⟨w.heap.size, 2, none⟩) (by simp)).trans (by simp [go_sem])
  have c3 : w1.cell? ⟨w.heap.size, 3, none⟩ = some (.bool false) := (hb1.cell (p := ⟨w.heap.size, 3, none⟩) (by simp)).trans (by simp [go_sem])
  have c4 : w1.cell? ⟨w.heap.size, 4, none⟩ = some (.bool st) := (hb1.cell (p := ⟨w.heap.size, 4, none⟩) (by simp)).trans (by simp [go_sem])
  have hlt : w.heap.size < w1.heap.size := World.block_lt_of_cell? w1 _ c0
  clear hb1 H
  go_wp2_with fail
  go_region_held3 (fun w' => w'.cell? ⟨w.heap.size, 0, none⟩ = some (.int .i64 7) ∧ w'.cell? ⟨w.heap.size, 1, none⟩ = some (.string r))
    (first | go_keep | (go_split_ands; refine ⟨(hb2.cell (p := ⟨w.heap.size, 0, none⟩) hlt).trans c0, (hb2.cell (p := ⟨w.heap.size, 1, none⟩) hlt).trans c1⟩))
    ((go_at_call 20; refine (HW _).mono ?_; rintro e' w2 ⟨rfl, hb2⟩))
  have HB2 := hide (bstep (unhide HB1) ((below_drewN (Below.refl _ w1) 1).trans hb2))
  have d0 : w2.cell? ⟨w.heap.size, 0, none⟩ = some (.int .i64 7) := (hb2.cell (p := ⟨w.heap.size, 0, none⟩) hlt).trans c0
  have d1 : w2.cell? ⟨w.heap.size, 1, none⟩ = some (.string r) := (hb2.cell (p := ⟨w.heap.size, 1, none⟩) hlt).trans c1
  have d2 : w2.cell? ⟨w.heap.size, 2, none⟩ = some (.int .i64 0) := (hb2.cell (p := ⟨w.heap.size, 2, none⟩) hlt).trans c2
  have d3 : w2.cell? ⟨w.heap.size, 3, none⟩ = some (.bool false) := (hb2.cell (p := ⟨w.heap.size, 3, none⟩) hlt).trans c3
  have d4 : w2.cell? ⟨w.heap.size, 4, none⟩ = some (.bool st) := (hb2.cell (p := ⟨w.heap.size, 4, none⟩) hlt).trans c4
  have hlt2 : w.heap.size < w2.heap.size := World.block_lt_of_cell? w2 _ d0
  clear hb2
  go_wp2_with fail
  go_ret
  exact ⟨rfl, unhide HB2⟩

set_option maxHeartbeats 1600000 in
set_option maxRecDepth 100000 in
theorem check_oko (e : Int) (r : ByteArray) (g : Int) (fr st : Bool) (w : World) (n : Int) (hm : r.size ≤ maxLen) (he : 1 ≤ e ∧ e ≤ 7) (HW : ∀ w : World, Calls Try.prog 20 #[.int .i64 e, .string r] w fun e' w' => e' = .returned (.int .i64 n) ∧ Below w.heap.size w w') (hn : (n != (r.size : Int)) = false) (h6 : (e != 6) = true) (h7 : (e != 7) = true) (hg : g = 0) (hf : fr = false) (hs : st = false) :
    Calls Try.prog 10 #[.agg #[.int .i64 e, .string r, .int .i64 g, .bool fr, .bool st]] w fun e' w' => e' = .returned (.int .i64 0) ∧ Below w.heap.size w w' := by
  have H := fun w => kind_yes e w he
  unfold maxLen at hm
  subst hg hf hs
  go_enter Try.func10, Try.ntmps10
  go_wp2_with fail
  refine (H _).mono ?_
  rintro e' w1 ⟨rfl, hb1⟩
  have HB1 := hide (bstep (balloc _ _) hb1)
  have c0 : w1.cell? ⟨w.heap.size, 0, none⟩ = some (.int .i64 e) := (hb1.cell (p := ⟨w.heap.size, 0, none⟩) (by simp)).trans (by simp [go_sem])
  have c1 : w1.cell? ⟨w.heap.size, 1, none⟩ = some (.string r) := (hb1.cell (p := ⟨w.heap.size, 1, none⟩) (by simp)).trans (by simp [go_sem])
  have c2 : w1.cell? ⟨w.heap.size, 2, none⟩ = some (.int .i64 0) := (hb1.cell (p := ⟨w.heap.size, 2, none⟩) (by simp)).trans (by simp [go_sem])
  have c3 : w1.cell? ⟨w.heap.size, 3, none⟩ = some (.bool false) := (hb1.cell (p := ⟨w.heap.size, 3, none⟩) (by simp)).trans (by simp [go_sem])
  have c4 : w1.cell? ⟨w.heap.size, 4, none⟩ = some (.bool false) := (hb1.cell (p := ⟨w.heap.size, 4, none⟩) (by simp)).trans (by simp [go_sem])
  have hlt : w.heap.size < w1.heap.size := World.block_lt_of_cell? w1 _ c0
  clear hb1 H
  go_wp2_with fail
  go_region_held3 (fun w' => w'.cell? ⟨w.heap.size, 0, none⟩ = some (.int .i64 e) ∧ w'.cell? ⟨w.heap.size, 1, none⟩ = some (.string r))
    (first | go_keep | (go_split_ands; refine ⟨(hb2.cell (p := ⟨w.heap.size, 0, none⟩) hlt).trans c0, (hb2.cell (p := ⟨w.heap.size, 1, none⟩) hlt).trans c1⟩))
    ((go_at_call 20; refine (HW _).mono ?_; rintro e' w2 ⟨rfl, hb2⟩))
  have HB2 := hide (bstep (unhide HB1) ((below_drewN (Below.refl _ w1) 1).trans hb2))
  have d0 : w2.cell? ⟨w.heap.size, 0, none⟩ = some (.int .i64 e) := (hb2.cell (p := ⟨w.heap.size, 0, none⟩) hlt).trans c0
  have d1 : w2.cell? ⟨w.heap.size, 1, none⟩ = some (.string r) := (hb2.cell (p := ⟨w.heap.size, 1, none⟩) hlt).trans c1
  have d2 : w2.cell? ⟨w.heap.size, 2, none⟩ = some (.int .i64 0) := (hb2.cell (p := ⟨w.heap.size, 2, none⟩) hlt).trans c2
  have d3 : w2.cell? ⟨w.heap.size, 3, none⟩ = some (.bool false) := (hb2.cell (p := ⟨w.heap.size, 3, none⟩) hlt).trans c3
  have d4 : w2.cell? ⟨w.heap.size, 4, none⟩ = some (.bool false) := (hb2.cell (p := ⟨w.heap.size, 4, none⟩) hlt).trans c4
  have hlt2 : w.heap.size < w2.heap.size := World.block_lt_of_cell? w2 _ d0
  clear hb2
  go_wp2_with fail
  go_ret
  exact ⟨rfl, unhide HB2⟩

/-- What Check answers. -/
def chk (e : Int) (r : ByteArray) (t : M.St) : Int :=
  if ¬ (1 ≤ e ∧ e ≤ 7) then 6 else if ¬ (M.wE e (bl r) = r.size ∧ r.size ≤ 3) then 1 else if t.1 < 0 ∨ 2 < t.1 then 4 else if e ≠ 6 ∧ (t.1 ≠ 0 ∨ t.2.1 = true) then 4 else if e ≠ 7 ∧ t.2.2 = true then 4 else 0
theorem waits_val (e : Int) (r : ByteArray) (hm : r.size ≤ maxLen) (he : 1 ≤ e ∧ e ≤ 7) : ∃ n : Int, (∀ w : World, Calls Try.prog 20 #[.int .i64 e, .string r] w fun e' w' => e' = .returned (.int .i64 n) ∧ Below w.heap.size w w') ∧ (n = r.size ↔ M.wE e (bl r) = r.size ∧ r.size ≤ 3) := by
  have hb := M.wE_bd he (bl r)
  by_cases h8 : e = 1 → r.size ≤ 3000
  · exact ⟨_, fun w => waits_any e r w he hm h8, ⟨fun h => ⟨h, by omega⟩, fun h => h.1⟩⟩
  · have h1 : e = 1 := Classical.byContradiction (fun q => h8 (fun h => absurd h q))
    subst h1
    have h2 : 3000 < r.size := Nat.lt_of_not_le (fun q => h8 (fun _ => q))
    exact ⟨0, fun w => waits_long r w hm h2, ⟨fun h => by omega, fun h => by omega⟩⟩
theorem check_any (e : Int) (r : ByteArray) (t : M.St) (w : World) (hm : r.size ≤ maxLen) :
    Calls Try.prog 10 #[sv e r t] w fun e' w' => e' = .returned (.int .i64 (chk e r t)) ∧ Below w.heap.size w w' := by
  obtain ⟨g, fr, st⟩ := t
  unfold sv chk
  show Calls Try.prog 10 #[.agg #[.int .i64 e, .string r, .int .i64 g, .bool fr, .bool st]] w _
  by_cases he : 1 ≤ e ∧ e ≤ 7
  · rw [if_neg (fun q => q he)]
    obtain ⟨n, HW, hn⟩ := waits_val e r hm he
    by_cases hr : M.wE e (bl r) = r.size ∧ r.size ≤ 3
    · rw [if_neg (fun q => q hr)]
      have hn1 : (n != (r.size : Int)) = false := by simpa using hn.2 hr
      by_cases hg : g < 0 ∨ 2 < g
      · rw [if_pos hg]
        rcases hg with hg | hg
        · exact check_low e r g fr st w n hm he HW hn1 hg
        · exact check_high e r g fr st w n hm he HW hn1 hg
      · rw [if_neg hg]
        by_cases h6 : e = 6
        · rw [if_neg (fun q => q.1 h6)]
          cases st
          · rw [if_neg (by simp)]
            exact check_okk e r g fr false w n hm he HW hn1 h6 (by omega) (by omega) rfl
          · rw [if_pos ⟨by omega, rfl⟩]
            exact check_stopk e r g fr true w n hm he HW hn1 h6 (by omega) (by omega) rfl
        · have h6' : (e != 6) = true := by simpa using h6
          by_cases hg0 : g = 0
          · cases fr
            · rw [if_neg (by simp [hg0])]
              by_cases h7 : e = 7
              · rw [if_neg (fun q => q.1 h7)]
                exact check_okx e r g false st w n hm he HW hn1 h7 hg0 rfl
              · have h7' : (e != 7) = true := by simpa using h7
                cases st
                · rw [if_neg (by simp)]
                  exact check_oko e r g false false w n hm he HW hn1 h6' h7' hg0 rfl rfl
                · rw [if_pos ⟨h7, rfl⟩]
                  exact check_stopo e r g false true w n hm he HW hn1 h6' h7' hg0 rfl rfl
            · rw [if_pos ⟨h6, .inr rfl⟩]
              exact check_fresh e r g true st w n hm he HW hn1 h6' hg0 rfl
          · rw [if_pos ⟨h6, .inl hg0⟩]
            exact check_signs e r g fr st w n hm he HW hn1 (by omega) (by omega) h6' (by simpa using hg0)
    · rw [if_pos hr]
      have hn1 : (n != (r.size : Int)) = true := by simpa using fun h => hr (hn.1 h)
      exact check_form e r g fr st w n hm he HW hn1
  · rw [if_pos he]
    exact check_kind e r g fr st w he
theorem chk_ok {e : Int} {r : ByteArray} {t : M.St} : chk e r t = 0 ↔ (1 ≤ e ∧ e ≤ 7) ∧ (M.wE e (bl r) = r.size ∧ r.size ≤ 3) ∧ M.Ok e t := by
  unfold chk M.Ok M.Sg
  constructor
  · intro h
    split at h
    · omega
    · rename_i h1
      split at h
      · omega
      · rename_i h2
        split at h
        · omega
        · rename_i h3
          split at h
          · omega
          · rename_i h4
            split at h
            · omega
            · rename_i h5
              have h1' : 1 ≤ e ∧ e ≤ 7 := Classical.byContradiction h1
              have h2' : M.wE e (bl r) = r.size ∧ r.size ≤ 3 := Classical.byContradiction h2
              refine ⟨h1', h2', by omega, fun q => ?_, fun q => ?_⟩
              · refine ⟨Classical.byContradiction (fun z => h4 ⟨q, .inl z⟩), ?_⟩
                cases hf : t.2.1
                · rfl
                · exact absurd ⟨q, .inr hf⟩ h4
              · cases hf : t.2.2
                · rfl
                · exact absurd ⟨q, hf⟩ h5
  · rintro ⟨h1, h2, h3, h4, h5⟩
    rw [if_neg (fun q => q h1), if_neg (fun q => q h2), if_neg (by omega), if_neg, if_neg]
    · rintro ⟨q, z⟩; rw [h5 q] at z; cases z
    · rintro ⟨q, z⟩
      rcases z with z | z
      · exact z (h4 q).1
      · rw [(h4 q).2] at z; cases z
end Go.Proofs.Ytpjhcecfcjbgoaa
