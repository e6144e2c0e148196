/- Laws that the statements of this seat lean on, part 4 (DD DE DF DG MathG6 KD KE KF Law RK RM RN RW MathF): each a contract of a function, or a plain fact; conditions stand at each. -/
import Derived.Deep.CutRange
import Derived.Deep.RegionHeld3
import Derived.Lib.AppendStr
import Derived.Test.YtaiinjfnkmidbaaGreatDoorQC3
namespace Go.Proofs.YtaiinjfnkmidbaaGreatDoor
open Go.RowKit
set_option linter.unusedVariables false

/-- A state as a value. -/
def sv (e : Int) (r : ByteArray) (t : M.St) : Value := .agg #[.int .i64 e, .string r, .int .i64 t.1, .bool t.2.1, .bool t.2.2]

set_option maxHeartbeats 800000 in
set_option maxRecDepth 100000 in
theorem check_kind (e : Int) (r : ByteArray) (g : Int) (fr st : Bool) (w : World) (he : ¬ (1 ≤ e ∧ e ≤ 7)) :
    Calls Tryz.prog 60 #[.agg #[.int .i64 e, .string r, .int .i64 g, .bool fr, .bool st]] w fun e' w' => e' = .returned (.int .i64 6) ∧ Below w.heap.size w w' := by
  have H := fun w => kind_no e w he
  go_enter Tryz.func60, Tryz.ntmps60
  go_wp2_with fail
  refine (H _).mono ?_
  rintro e' w1 ⟨rfl, hb⟩
  have HB := hide (bstep (balloc _ _) hb)
  clear hb H
  go_wp2_with fail
  go_ret
  exact ⟨rfl, unhide HB⟩

set_option maxHeartbeats 1600000 in
set_option maxRecDepth 100000 in
theorem check_form (e : Int) (r : ByteArray) (g : Int) (fr st : Bool) (w : World) (n : Int) (hm : r.size ≤ maxLen) (he : 1 ≤ e ∧ e ≤ 7) (HW : ∀ w : World, Calls Tryz.prog 121 #[.int .i64 e, .string r] w fun e' w' => e' = .returned (.int .i64 n) ∧ Below w.heap.size w w') (hn : (n != (r.size : Int)) = true) :
    Calls Tryz.prog 60 #[.agg #[.int .i64 e, .string r, .int .i64 g, .bool fr, .bool st]] w fun e' w' => e' = .returned (.int .i64 1) ∧ Below w.heap.size w w' := by
  have H := fun w => kind_yes e w he
  unfold maxLen at hm
  go_enter Tryz.func60, Tryz.ntmps60
  go_wp2_with fail
  refine (H _).mono ?_
  rintro e' w1 ⟨rfl, hb1⟩
  have HB1 := hide (bstep (balloc _ _) hb1)
  have c0 : w1.cell? ⟨w.heap.size, 0, none⟩ = some (.int .i64 e) := (hb1.cell (p := ⟨w.heap.size, 0, none⟩) (by simp)).trans (by simp [go_sem])
  have c1 : w1.cell? ⟨w.heap.size, 1, none⟩ = some (.string r) := (hb1.cell (p := ⟨w.heap.size, 1, none⟩) (by simp)).trans (by simp [go_sem])
  have c2 : w1.cell? ⟨w.heap.size, 2, none⟩ = some (.int .i64 g) := (hb1.cell (p := ⟨w.heap.size, 2, none⟩) (by simp)).trans (by simp [go_sem])
  have c3 : w1.cell? ⟨w.heap.size, 3, none⟩ = some (.bool fr) := (hb1.cell (p := ⟨w.heap.size, 3, none⟩) (by simp)).trans (by simp [go_sem])
  have c4 : w1.cell? ⟨w.heap.size, 4, none⟩ = some (.bool st) := (hb1.cell (p := ⟨w.heap.size, 4, none⟩) (by simp)).trans (by simp [go_sem])
  have hlt : w.heap.size < w1.heap.size := World.block_lt_of_cell? w1 _ c0
  clear hb1 H
  go_wp2_with fail
  go_region_held3 (fun w' => w'.cell? ⟨w.heap.size, 0, none⟩ = some (.int .i64 e) ∧ w'.cell? ⟨w.heap.size, 1, none⟩ = some (.string r))
    (first | go_keep | (go_split_ands; refine ⟨(hb2.cell (p := ⟨w.heap.size, 0, none⟩) hlt).trans c0, (hb2.cell (p := ⟨w.heap.size, 1, none⟩) hlt).trans c1⟩))
    ((go_at_call 121; refine (HW _).mono ?_; rintro e' w2 ⟨rfl, hb2⟩))
  have HB2 := hide (bstep (unhide HB1) ((below_drewN (Below.refl _ w1) 1).trans hb2))
  have d0 : w2.cell? ⟨w.heap.size, 0, none⟩ = some (.int .i64 e) := (hb2.cell (p := ⟨w.heap.size, 0, none⟩) hlt).trans c0
  have d1 : w2.cell? ⟨w.heap.size, 1, none⟩ = some (.string r) := (hb2.cell (p := ⟨w.heap.size, 1, none⟩) hlt).trans c1
  have d2 : w2.cell? ⟨w.heap.size, 2, none⟩ = some (.int .i64 g) := (hb2.cell (p := ⟨w.heap.size, 2, none⟩) hlt).trans c2
  have d3 : w2.cell? ⟨w.heap.size, 3, none⟩ = some (.bool fr) := (hb2.cell (p := ⟨w.heap.size, 3, none⟩) hlt).trans c3
  have d4 : w2.cell? ⟨w.heap.size, 4, none⟩ = some (.bool st) := (hb2.cell (p := ⟨w.heap.size, 4, none⟩) hlt).trans c4
  have hlt2 : w.heap.size < w2.heap.size := World.block_lt_of_cell? w2 _ d0
  clear hb2
  go_wp2_with fail
  go_ret
  exact ⟨rfl, unhide HB2⟩

set_option maxHeartbeats 1600000 in
set_option maxRecDepth 100000 in
theorem check_low (e : Int) (r : ByteArray) (g : Int) (fr st : Bool) (w : World) (n : Int) (hm : r.size ≤ maxLen) (he : 1 ≤ e ∧ e ≤ 7) (HW : ∀ w : World, Calls Tryz.prog 121 #[.int .i64 e, .string r] w fun e' w' => e' = .returned (.int .i64 n) ∧ Below w.heap.size w w') (hn : (n != (r.size : Int)) = false) (hg : g < 0) :
    Calls Tryz.prog 60 #[.agg #[.int .i64 e, .string r, .int .i64 g, .bool fr, .bool st]] w fun e' w' => e' = .returned (.int .i64 4) ∧ Below w.heap.size w w' := by
  have H := fun w => kind_yes e w he
  unfold maxLen at hm
  go_enter Tryz.func60, Tryz.ntmps60
  go_wp2_with fail
  refine (H _).mono ?_
  rintro e' w1 ⟨rfl, hb1⟩
  have HB1 := hide (bstep (balloc _ _) hb1)
  have c0 : w1.cell? ⟨w.heap.size, 0, none⟩ = some (.int .i64 e) := (hb1.cell (p := ⟨w.heap.size, 0, none⟩) (by simp)).trans (by simp [go_sem])
  have c1 : w1.cell? ⟨w.heap.size, 1, none⟩ = some (.string r) := (hb1.cell (p := ⟨w.heap.size, 1, none⟩) (by simp)).trans (by simp [go_sem])
  have c2 : w1.cell? ⟨w.heap.size, 2, none⟩ = some (.int .i64 g) := (hb1.cell (p := ⟨w.heap.size, 2, none⟩) (by simp)).trans (by simp [go_sem])
  have c3 : w1.cell? ⟨w.heap.size, 3, none⟩ = some (.bool fr) := (hb1.cell (p := ⟨w.heap.size, 3, none⟩) (by simp)).trans (by simp [go_sem])
  have c4 : w1.cell? ⟨w.heap.size, 4, none⟩ = some (.bool st) := (hb1.cell (p := ⟨w.heap.size, 4, none⟩) (by simp)).trans (by simp [go_sem])
  have hlt : w.heap.size < w1.heap.size := World.block_lt_of_cell? w1 _ c0
  clear hb1 H
  go_wp2_with fail
  go_region_held3 (fun w' => w'.cell? ⟨w.heap.size, 0, none⟩ = some (.int .i64 e) ∧ w'.cell? ⟨w.heap.size, 1, none⟩ = some (.string r))
    (first | go_keep | (go_split_ands; refine ⟨(hb2.cell (p := ⟨w.heap.size, 0, none⟩) hlt).trans c0, (hb2.cell (p := ⟨w.heap.size, 1, none⟩) hlt).trans c1⟩))
    ((go_at_call 121; refine (HW _).mono ?_; rintro e' w2 ⟨rfl, hb2⟩))
  have HB2 := hide (bstep (unhide HB1) ((below_drewN (Below.refl _ w1) 1).trans hb2))
  have d0 : w2.cell? ⟨w.heap.size, 0, none⟩ = some (.int .i64 e) := (hb2.cell (p := ⟨w.heap.size, 0, none⟩) hlt).trans c0
  have d1 : w2.cell? ⟨w.heap.size, 1, none⟩ = some (.string r) := (hb2.cell (p := ⟨w.heap.size, 1, none⟩) hlt).trans c1
  have d2 : w2.cell? ⟨w.heap.size, 2, none⟩ = some (.int .i64 g) := (hb2.cell (p := ⟨w.heap.size, 2, none⟩) hlt).trans c2
  have d3 : w2.cell? ⟨w.heap.size, 3, none⟩ = some (.bool fr) := (hb2.cell (p := ⟨w.heap.size, 3, none⟩) hlt).trans c3
  have d4 : w2.cell? ⟨w.heap.size, 4, none⟩ = some (.bool st) := (hb2.cell (p := ⟨w.heap.size, 4, none⟩) hlt).trans c4
  have hlt2 : w.heap.size < w2.heap.size := World.block_lt_of_cell? w2 _ d0
  clear hb2
  go_wp2_with fail
  go_ret
  exact ⟨rfl, unhide HB2⟩

set_option maxHeartbeats 1600000 in
set_option maxRecDepth 100000 in
theorem check_high (e : Int) (r : ByteArray) (g : Int) (fr st : Bool) (w : World) (n : Int) (hm : r.size ≤ maxLen) (he : 1 ≤ e ∧ e ≤ 7) (HW : ∀ w : World, Calls Tryz.prog 121 #[.int .i64 e, .string r] w fun e' w' => e' = .returned (.int .i64 n) ∧ Below w.heap.size w w') (hn : (n != (r.size : Int)) = false) (hg : 2 < g) :
    Calls Tryz.prog 60 #[.agg #[.int .i64 e, .string r, .int .i64 g, .bool fr, .bool st]] w fun e' w' => e' = .returned (.int .i64 4) ∧ Below w.heap.size w w' := by
  have H := fun w => kind_yes e w he
  unfold maxLen at hm
  go_enter Tryz.func60, Tryz.ntmps60
  go_wp2_with fail
  refine (H _).mono ?_
  rintro e' w1 ⟨rfl, hb1⟩
  have HB1 := hide (bstep (balloc _ _) hb1)
  have c0 : w1.cell? ⟨w.heap.size, 0, none⟩ = some (.int .i64 e) := (hb1.cell (p := ⟨w.heap.size, 0, none⟩) (by simp)).trans (by simp [go_sem])
  have c1 : w1.cell? ⟨w.heap.size, 1, none⟩ = some (.string r) := (hb1.cell (p := ⟨w.heap.size, 1, none⟩) (by simp)).trans (by simp [go_sem])
  have c2 : w1.cell? ⟨w.heap.size, 2, none⟩ = some (.int .i64 g) := (hb1.cell (p := ⟨w.heap.size, 2, none⟩) (by simp)).trans (by simp [go_sem])
  have c3 : w1.cell? ⟨w.heap.size, 3, none⟩ = some (.bool fr) := (hb1.cell (p := ⟨w.heap.size, 3, none⟩) (by simp)).trans (by simp [go_sem])
  have c4 : w1.cell? ⟨w.heap.size, 4, none⟩ = some (.bool st) := (hb1.cell (p := ⟨w.heap.size, 4, none⟩) (by simp)).trans (by simp [go_sem])
  have hlt : w.heap.size < w1.heap.size := World.block_lt_of_cell? w1 _ c0
  clear hb1 H
  go_wp2_with fail
  go_region_held3 (fun w' => w'.cell? ⟨w.heap.size, 0, none⟩ = some (.int .i64 e) ∧ w'.cell? ⟨w.heap.size, 1, none⟩ = some (.string r))
    (first | go_keep | (go_split_ands; refine ⟨(hb2.cell (p := ⟨w.heap.size, 0, none⟩) hlt).trans c0, (hb2.cell (p := ⟨w.heap.size, 1, none⟩) hlt).trans c1⟩))
    ((go_at_call 121; refine (HW _).mono ?_; rintro e' w2 ⟨rfl, hb2⟩))
  have HB2 := hide (bstep (unhide HB1) ((below_drewN (Below.refl _ w1) 1).trans hb2))
  have d0 : w2.cell? ⟨w.heap.size, 0, none⟩ = some (.int .i64 e) := (hb2.cell (p := ⟨w.heap.size, 0, none⟩) hlt).trans c0
  have d1 : w2.cell? ⟨w.heap.size, 1, none⟩ = some (.string r) := (hb2.cell (p := ⟨w.heap.size, 1, none⟩) hlt).trans c1
  have d2 : w2.cell? ⟨w.heap.size, 2, none⟩ = some (.int .i64 g) := (hb2.cell (p := ⟨w.heap.size, 2, none⟩) hlt).trans c2
  have d3 : w2.cell? ⟨w.heap.size, 3, none⟩ = some (.bool fr) := (hb2.cell (p := ⟨w.heap.size, 3, none⟩) hlt).trans c3
  have d4 : w2.cell? ⟨w.heap.size, 4, none⟩ = some (.bool st) := (hb2.cell (p := ⟨w.heap.size, 4, none⟩) hlt).trans c4
  have hlt2 : w.heap.size < w2.heap.size := World.block_lt_of_cell? w2 _ d0
  clear hb2
  go_wp2_with fail
  go_ret
  exact ⟨rfl, unhide HB2⟩

set_option maxHeartbeats 1600000 in
set_option maxRecDepth 100000 in
theorem check_signs (e : Int) (r : ByteArray) (g : Int) (fr st : Bool) (w : World) (n : Int) (hm : r.size ≤ maxLen) (he : 1 ≤ e ∧ e ≤ 7) (HW : ∀ w : World, Calls Tryz.prog 121 #[.int .i64 e, .string r] w fun e' w' => e' = .returned (.int .i64 n) ∧ Below w.heap.size w w') (hn : (n != (r.size : Int)) = false) (hg0 : 0 ≤ g) (hg2 : g ≤ 2) (h6 : (e != 6) = true) (hg : (g != 0) = true) :
    Calls Tryz.prog 60 #[.agg #[.int .i64 e, .string r, .int .i64 g, .bool fr, .bool st]] w fun e' w' => e' = .returned (.int .i64 4) ∧ Below w.heap.size w w' := by
  have H := fun w => kind_yes e w he
  unfold maxLen at hm
  go_enter Tryz.func60, Tryz.ntmps60
  go_wp2_with fail
  refine (H _).mono ?_
  rintro e' w1 ⟨rfl, hb1⟩
  have HB1 := hide (bstep (balloc _ _) hb1)
  have c0 : w1.cell? ⟨w.heap.size, 0, none⟩ = some (.int .i64 e) := (hb1.cell (p := ⟨w.heap.size, 0, none⟩) (by simp)).trans (by simp [go_sem])
  have c1 : w1.cell? ⟨w.heap.size, 1, none⟩ = some (.string r) := (hb1.cell (p := ⟨w.heap.size, 1, none⟩) (by simp)).trans (by simp [go_sem])
  have c2 : w1.cell? ⟨w.heap.size, 2, none⟩ = some (.int .i64 g) := (hb1.cell (p := ⟨w.heap.size, 2, none⟩) (by simp)).trans (by simp [go_sem])
  have c3 : w1.cell? ⟨w.heap.size, 3, none⟩ = some (.bool fr) := (hb1.cell (p := ⟨w.heap.size, 3, none⟩) (by simp)).trans (by simp [go_sem])
  have c4 : w1.cell? ⟨w.heap.size, 4, none⟩ = some (.bool st) := (hb1.cell (p := ⟨w.heap.size, 4, none⟩) (by simp)).trans (by simp [go_sem])
  have hlt : w.heap.size < w1.heap.size := World.block_lt_of_cell? w1 _ c0
  clear hb1 H
  go_wp2_with fail
  go_region_held3 (fun w' => w'.cell? ⟨w.heap.size, 0, none⟩ = some (.int .i64 e) ∧ w'.cell? ⟨w.heap.size, 1, none⟩ = some (.string r))
    (first | go_keep | (go_split_ands; refine ⟨(hb2.cell (p := ⟨w.heap.size, 0, none⟩) hlt).trans c0, (hb2.cell (p := ⟨w.heap.size, 1, none⟩) hlt).trans c1⟩))
    ((go_at_call 121; refine (HW _).mono ?_; rintro e' w2 ⟨rfl, hb2⟩))
  have HB2 := hide (bstep (unhide HB1) ((below_drewN (Below.refl _ w1) 1).trans hb2))
  have d0 : w2.cell? ⟨w.heap.size, 0, none⟩ = some (.int .i64 e) := (hb2.cell (p := ⟨w.heap.size, 0, none⟩) hlt).trans c0
  have d1 : w2.cell? ⟨w.heap.size, 1, none⟩ = some (.string r) := (hb2.cell (p := ⟨w.heap.size, 1, none⟩) hlt).trans c1
  have d2 : w2.cell? ⟨w.heap.size, 2, none⟩ = some (.int .i64 g) := (hb2.cell (p := ⟨w.heap.size, 2, none⟩) hlt).trans c2
  have d3 : w2.cell? ⟨w.heap.size, 3, none⟩ = some (.bool fr) := (hb2.cell (p := ⟨w.heap.size, 3, none⟩) hlt).trans c3
  have d4 : w2.cell? ⟨w.heap.size, 4, none⟩ = some (.bool st) := (hb2.cell (p := ⟨w.heap.size, 4, none⟩) hlt).trans c4
  have hlt2 : w.heap.size < w2.heap.size := World.block_lt_of_cell? w2 _ d0
  clear hb2
  go_wp2_with fail
  go_ret
  exact ⟨rfl, unhide HB2⟩

set_option maxHeartbeats 1600000 in
set_option maxRecDepth 100000 in
theorem check_fresh (e : Int) (r : ByteArray) (g : Int) (fr st : Bool) (w : World) (n : Int) (hm : r.size ≤ maxLen) (he : 1 ≤ e ∧ e ≤ 7) (HW : ∀ w : World, Calls Tryz.prog 121 #[.int .i64 e, .string r] w fun e' w' => e' = .returned (.int .i64 n) ∧ Below w.heap.size w w') (hn : (n != (r.size : Int)) = false) (h6 : (e != 6) = true) (hg : g = 0) (hf : fr = true) :
    Calls Tryz.prog 60 #[.agg #[.int .i64 e, .string r, .int .i64 g, .bool fr, .bool st]] w fun e' w' => e' = .returned (.int .i64 4) ∧ Below w.heap.size w w' := by
  have H := fun w => kind_yes e w he
  unfold maxLen at hm
  subst hg hf
  go_enter Tryz.func60, Tryz.ntmps60
  go_wp2_with fail
  refine (H _).mono ?_
  rintro e' w1 ⟨rfl, hb1⟩
  have HB1 := hide (bstep (balloc _ _) hb1)
  have c0 : w1.cell? ⟨w.heap.size, 0, none⟩ = some (.int .i64 e) := (hb1.cell (p := ⟨w.heap.size, 0, none⟩) (by simp)).trans (by simp [go_sem])
  have c1 : w1.cell? ⟨w.heap.size, 1, none⟩ = some (.string r) := (hb1.cell (p := ⟨w.heap.size, 1, none⟩) (by simp)).trans (by simp [go_sem])
  have c2 : w1.cell? ⟨w.heap.size, 2, none⟩ = some (.int .i64 0) := (hb1.cell (p := ⟨w.heap.size, 2, none⟩) (by simp)).trans (by simp [go_sem])
  have c3 : w1.cell? ⟨w.heap.size, 3, none⟩ = some (.bool true) := (hb1.cell (p := ⟨w.heap.size, 3, none⟩) (by simp)).trans (by simp [go_sem])
  have c4 : w1.cell? ⟨w.heap.size, 4, none⟩ = some (.bool st) := (hb1.cell (p := ⟨w.heap.size, 4, none⟩) (by simp)).trans (by simp [go_sem])
  have hlt : w.heap.size < w1.heap.size := World.block_lt_of_cell? w1 _ c0
  clear hb1 H
  go_wp2_with fail
  go_region_held3 (fun w' => w'.cell? ⟨w.heap.size, 0, none⟩ = some (.int .i64 e) ∧ w'.cell? ⟨w.heap.size, 1, none⟩ = some (.string r))
    (first | go_keep | (go_split_ands; refine ⟨(hb2.cell (p := ⟨w.heap.size, 0, none⟩) hlt).trans c0, (hb2.cell (p := ⟨w.heap.size, 1, none⟩) hlt).trans c1⟩))
    ((go_at_call 121; refine (HW _).mono ?_; rintro e' w2 ⟨rfl, hb2⟩))
  have HB2 := hide (bstep (unhide HB1) ((below_drewN (Below.refl _ w1) 1).trans hb2))
  have d0 : w2.cell? ⟨w.heap.size, 0, none⟩ = some (.int .i64 e) := (hb2.cell (p := ⟨w.heap.size, 0, none⟩) hlt).trans c0
  have d1 : w2.cell? ⟨w.heap.size, 1, none⟩ = some (.string r) := (hb2.cell (p := ⟨w.heap.size, 1, none⟩) hlt).trans c1
  have d2 : w2.cell? ⟨w.heap.size, 2, none⟩ = some (.int .i64 0) := (hb2.cell (p := ⟨w.heap.size, 2, none⟩) hlt).trans c2
  have d3 : w2.cell? ⟨w.heap.size, 3, none⟩ = some (.bool true) := (hb2.cell (p := ⟨w.heap.size, 3, none⟩) hlt).trans c3
  have d4 : w2.cell? ⟨w.heap.size, 4, none⟩ = some (.bool st) := (hb2.cell (p := ⟨w.heap.size, 4, none⟩) hlt).trans c4
  have hlt2 : w.heap.size < w2.heap.size := World.block_lt_of_cell? w2 _ d0
  clear hb2
  go_wp2_with fail
  go_ret
  exact ⟨rfl, unhide HB2⟩

set_option maxHeartbeats 1600000 in
set_option maxRecDepth 100000 in
theorem check_stopk (e : Int) (r : ByteArray) (g : Int) (fr st : Bool) (w : World) (n : Int) (hm : r.size ≤ maxLen) (he : 1 ≤ e ∧ e ≤ 7) (HW : ∀ w : World, Calls Tryz.prog 121 #[.int .i64 e, .string r] w fun e' w' => e' = .returned (.int .i64 n) ∧ Below w.heap.size w w') (hn : (n != (r.size : Int)) = false) (h6 : e = 6) (hg0 : 0 ≤ g) (hg2 : g ≤ 2) (hs : st = true) :
    Calls Tryz.prog 60 #[.agg #[.int .i64 e, .string r, .int .i64 g, .bool fr, .bool st]] w fun e' w' => e' = .returned (.int .i64 4) ∧ Below w.heap.size w w' := by
  have H := fun w => kind_yes e w he
  unfold maxLen at hm
  subst h6 hs
  go_enter Tryz.func60, Tryz.ntmps60
  go_wp2_with fail
  refine (H _).mono ?_
  rintro e' w1 ⟨rfl, hb1⟩
  have HB1 := hide (bstep (balloc _ _) hb1)
  have c0 : w1.cell? ⟨w.heap.size, 0, none⟩ = some (.int .i64 6) := (hb1.cell (p := ⟨w.heap.size, 0, none⟩) (by simp)).trans (by simp [go_sem])
  have c1 : w1.cell? ⟨w.heap.size, 1, none⟩ = some (.string r) := (hb1.cell (p := ⟨w.heap.size, 1, none⟩) (by simp)).trans (by simp [go_sem])
  have c2 : w1.cell? ⟨w.heap.size, 2, none⟩ = some (.int .i64 g) := (hb1.cell (p := ⟨w.heap.size, 2, none⟩) (by simp)).trans (by simp [go_sem])
  have c3 : w1.cell? ⟨w.heap.size, 3, none⟩ = some (.bool fr) := (hb1.cell (p := ⟨w.heap.size, 3, none⟩) (by simp)).trans (by simp [go_sem])
  have c4 : w1.cell? ⟨w.heap.size, 4, none⟩ = some (.bool true) := (hb1.cell (p := ⟨w.heap.size, 4, none⟩) (by simp)).trans (by simp [go_sem])
  have hlt : w.heap.size < w1.heap.size := World.block_lt_of_cell? w1 _ c0
  clear hb1 H
  go_wp2_with fail
  go_region_held3 (fun w' => w'.cell? ⟨w.heap.size, 0, none⟩ = some (.int .i64 6) ∧ w'.cell? ⟨w.heap.size, 1, none⟩ = some (.string r))
    (first | go_keep | (go_split_ands; refine ⟨(hb2.cell (p := ⟨w.heap.size, 0, none⟩) hlt).trans c0, (hb2.cell (p := ⟨w.heap.size, 1, none⟩) hlt).trans c1⟩))
    ((go_at_call 121; refine (HW _).mono ?_; rintro e' w2 ⟨rfl, hb2⟩))
  have HB2 := hide (bstep (unhide HB1) ((below_drewN (Below.refl _ w1) 1).trans hb2))
  have d0 : w2.cell? ⟨w.heap.size, 0, none⟩ = some (.int .i64 6) := (hb2.cell (p := ⟨w.heap.size, 0, none⟩) hlt).trans c0
  have d1 : w2.cell? ⟨w.heap.size, 1, none⟩ = some (.string r) := (hb2.cell (p := ⟨w.heap.size, 1, none⟩) hlt).trans c1
  have d2 : w2.cell? ⟨w.heap.size, 2, none⟩ = some (.int .i64 g) := (hb2.cell (p := ⟨w.heap.size, 2, none⟩) hlt).trans c2
  have d3 : w2.cell? ⟨w.heap.size, 3, none⟩ = some (.bool fr) := (hb2.cell (p := ⟨w.heap.size, 3, none⟩) hlt).trans c3
  have d4 : w2.cell? ⟨w.heap.size, 4, none⟩ = some (.bool true) := (hb2.cell (p := ⟨w.heap.size, 4, none⟩) hlt).trans c4
  have hlt2 : w.heap.size < w2.heap.size := World.block_lt_of_cell? w2 _ d0
  clear hb2
  go_wp2_with fail
  go_ret
  exact ⟨rfl, unhide HB2⟩

set_option maxHeartbeats 1600000 in
set_option maxRecDepth 100000 in
theorem check_stopo (e : Int) (r : ByteArray) (g : Int) (fr st : Bool) (w : World) (n : Int) (hm : r.size ≤ maxLen) (he : 1 ≤ e ∧ e ≤ 7) (HW : ∀ w : World, Calls Tryz.prog 121 #[.int .i64 e, .string r] w fun e' w' => e' = .returned (.int .i64 n) ∧ Below w.heap.size w w') (hn : (n != (r.size : Int)) = false) (h6 : (e != 6) = true) (h7 : (e != 7) = true) (hg : g = 0) (hf : fr = false) (hs : st = true) :
    Calls Tryz.prog 60 #[.agg #[.int .i64 e, .string r, .int .i64 g, .bool fr, .bool st]] w fun e' w' => e' = .returned (.int .i64 4) ∧ Below w.heap.size w w' := by
  have H := fun w => kind_yes e w he
  unfold maxLen at hm
  subst hg hf hs
  go_enter Tryz.func60, Tryz.ntmps60
  go_wp2_with fail
  refine (H _).mono ?_
  rintro e' w1 ⟨rfl, hb1⟩
  have HB1 := hide (bstep (balloc _ _) hb1)
  have c0 : w1.cell? ⟨w.heap.size, 0, none⟩ = some (.int .i64 e) := (hb1.cell (p := ⟨w.heap.size, 0, none⟩) (by simp)).trans (by simp [go_sem])
  have c1 : w1.cell? ⟨w.heap.size, 1, none⟩ = some (.string r) := (hb1.cell (p := ⟨w.heap.size, 1, none⟩) (by simp)).trans (by simp [go_sem])
  have c2 : w1.cell? ⟨w.heap.size, 2, none⟩ = some (.int .i64 0) := (hb1.cell (p := ⟨w.heap.size, 2, none⟩) (by simp)).trans (by simp [go_sem])
  have c3 : w1.cell? ⟨w.heap.size, 3, none⟩ = some (.bool false) := (hb1.cell (p := ⟨w.heap.size, 3, none⟩) (by simp)).trans (by simp [go_sem])
  have c4 : w1.cell? ⟨w.heap.size, 4, none⟩ = some (.bool true) := (hb1.cell (p := ⟨w.heap.size, 4, none⟩) (by simp)).trans (by simp [go_sem])
  have hlt : w.heap.size < w1.heap.size := World.block_lt_of_cell? w1 _ c0
  clear hb1 H
  go_wp2_with fail
  go_region_held3 (fun w' => w'.cell? ⟨w.heap.size, 0, none⟩ = some (.int .i64 e) ∧ w'.cell? ⟨w.heap.size, 1, none⟩ = some (.string r))
    (first | go_keep | (go_split_ands; refine ⟨(hb2.cell (p := ⟨w.heap.size, 0, none⟩) hlt).trans c0, (hb2.cell (p := ⟨w.heap.size, 1, none⟩) hlt).trans c1⟩))
    ((go_at_call 121; refine (HW _).mono ?_; rintro e' w2 ⟨rfl, hb2⟩))
  have HB2 := hide (bstep (unhide HB1) ((below_drewN (Below.refl _ w1) 1).trans hb2))
  have d0 : w2.cell? ⟨w.heap.size, 0, none⟩ = some (.int .i64 e) := (hb2.cell (p := ⟨w.heap.size, 0, none⟩) hlt).trans c0
  have d1 : w2.cell? ⟨w.heap.size, 1, none⟩ = some (.string r) := (hb2.cell (p := ⟨w.heap.size, 1, none⟩) hlt).trans c1
  have d2 : w2.cell? ⟨w.heap.size, 2, none⟩ = some (.int .i64 0) := (hb2.cell (p := ⟨w.heap.size, 2, none⟩) hlt).trans c2
  have d3 : w2.cell? ⟨w.heap.size, 3, none⟩ = some (.bool false) := (hb2.cell (p := ⟨w.heap.size, 3, none⟩) hlt).trans c3
  have d4 : w2.cell? ⟨w.heap.size, 4, none⟩ = some (.bool true) := (hb2.cell (p := ⟨w.heap.size, 4, none⟩) hlt).trans c4
  have hlt2 : w.heap.size < w2.heap.size := World.block_lt_of_cell? w2 _ d0
  clear hb2
  go_wp2_with fail
  go_ret
  exact ⟨rfl, unhide HB2⟩

set_option maxHeartbeats 1600000 in
set_option maxRecDepth 100000 in
theorem check_okk (e : Int) (r : ByteArray) (g : Int) (fr st : Bool) (w : World) (n : Int) (hm : r.size ≤ maxLen) (he : 1 ≤ e ∧ e ≤ 7) (HW : ∀ w : World, Calls Tryz.prog 121 #[.int .i64 e, .string r] w fun e' w' => e' = .returned (.int .i64 n) ∧ Below w.heap.size w w') (hn : (n != (r.size : Int)) = false) (h6 : e = 6) (hg0 : 0 ≤ g) (hg2 : g ≤ 2) (hs : st = false) :
    Calls Tryz.prog 60 #[.agg #[.int .i64 e, .string r, .int .i64 g, .bool fr, .bool st]] w fun e' w' => e' = .returned (.int .i64 0) ∧ Below w.heap.size w w' := by
  have H := fun w => kind_yes e w he
  unfold maxLen at hm
  subst h6 hs
  go_enter Tryz.func60, Tryz.ntmps60
  go_wp2_with fail
  refine (H _).mono ?_
  rintro e' w1 ⟨rfl, hb1⟩
  have HB1 := hide (bstep (balloc _ _) hb1)
  have c0 : w1.cell? ⟨w.heap.size, 0, none⟩ = some (.int .i64 6) := (hb1.cell (p := ⟨w.heap.size, 0, none⟩) (by simp)).trans (by simp [go_sem])
  have c1 : w1.cell? ⟨w.heap.size, 1, none⟩ = some (.string r) := (hb1.cell (p := ⟨w.heap.size, 1, none⟩) (by simp)).trans (by simp [go_sem])
  have c2 : w1.cell? ⟨w.heap.size, 2, none⟩ = some (.int .i64 g) := (hb1.cell (p := ⟨w.heap.size, 2, none⟩) (by simp)).trans (by simp [go_sem])
  have c3 : w1.cell? ⟨w.heap.size, 3, none⟩ = some (.bool fr) := (hb1.cell (p := ⟨w.heap.size, 3, none⟩) (by simp)).trans (by simp [go_sem])
  have c4 : w1.cell? ⟨w.heap.size, 4, none⟩ = some (.bool false) := (hb1.cell (p := ⟨w.heap.size, 4, none⟩) (by simp)).trans (by simp [go_sem])
  have hlt : w.heap.size < w1.heap.size := World.block_lt_of_cell? w1 _ c0
  clear hb1 H
  go_wp2_with fail
  go_region_held3 (fun w' => w'.cell? ⟨w.heap.size, 0, none⟩ = some (.int .i64 6) ∧ w'.cell? ⟨w.heap.size, 1, none⟩ = some (.string r))
    (first | go_keep | (go_split_ands; refine ⟨(hb2.cell (p := ⟨w.heap.size, 0, none⟩) hlt).trans c0, (hb2.cell (p := ⟨w.heap.size, 1, none⟩) hlt).trans c1⟩))
    ((go_at_call 121; refine (HW _).mono ?_; rintro e' w2 ⟨rfl, hb2⟩))
  have HB2 := hide (bstep (unhide HB1) ((below_drewN (Below.refl _ w1) 1).trans hb2))
  have d0 : w2.cell? ⟨w.heap.size, 0, none⟩ = some (.int .i64 6) := (hb2.cell (p := ⟨w.heap.size, 0, none⟩) hlt).trans c0
  have d1 : w2.cell? ⟨w.heap.size, 1, none⟩ = some (.string r) := (hb2.cell (p := ⟨w.heap.size, 1, none⟩) hlt).trans c1
  have d2 : w2.cell? ⟨w.heap.size, 2, none⟩ = some (.int .i64 g) := (hb2.cell (p := ⟨w.heap.size, 2, none⟩) hlt).trans c2
  have d3 : w2.cell? ⟨w.heap.size, 3, none⟩ = some (.bool fr) := (hb2.cell (p := ⟨w.heap.size, 3, none⟩) hlt).trans c3
  have d4 : w2.cell? ⟨w.heap.size, 4, none⟩ = some (.bool false) := (hb2.cell (p := ⟨w.heap.size, 4, none⟩) hlt).trans c4
  have hlt2 : w.heap.size < w2.heap.size := World.block_lt_of_cell? w2 _ d0
  clear hb2
  go_wp2_with fail
  go_ret
  exact ⟨rfl, unhide HB2⟩

set_option maxHeartbeats 1600000 in
set_option maxRecDepth 100000 in
theorem check_okx (e : Int) (r : ByteArray) (g : Int) (fr st : Bool) (w : World) (n : Int) (hm : r.size ≤ maxLen) (he : 1 ≤ e ∧ e ≤ 7) (HW : ∀ w : World, Calls Tryz.prog 121 #[.int .i64 e, .string r] w fun e' w' => e' = .returned (.int .i64 n) ∧ Below w.heap.size w w') (hn : (n != (r.size : Int)) = false) (h7 : e = 7) (hg : g = 0) (hf : fr = false) :
    Calls Tryz.prog 60 #[.agg #[.int .i64 e, .string r, .int .i64 g, .bool fr, .bool st]] w fun e' w' => e' = .returned (.int .i64 0) ∧ Below w.heap.size w w' := by
  have H := fun w => kind_yes e w he
  unfold maxLen at hm
  subst h7 hg hf
  go_enter Tryz.func60, Tryz.ntmps60
  go_wp2_with fail
  refine (H _).mono ?_
  rintro e' w1 ⟨rfl, hb1⟩
  have HB1 := hide (bstep (balloc _ _) hb1)
  have c0 : w1.cell? ⟨w.heap.size, 0, none⟩ = some (.int .i64 7) := (hb1.cell (p := ⟨w.heap.size, 0, none⟩) (by simp)).trans (by simp [go_sem])
  have c1 : w1.cell? ⟨w.heap.size, 1, none⟩ = some (.string r) := (hb1.cell (p := ⟨w.heap.size, 1, none⟩) (by simp)).trans (by simp [go_sem])
  have c2 : w1.cell? ⟨w.heap.size, 2, none⟩ = some (.int .i64 0) := (hb1.cell (p := ⟨w.heap.size, 2, none⟩) (by simp)).trans (by simp [go_sem])
  have c3 : w1.cell? ⟨w.heap.size, 3, none⟩ = some (.bool false) := (hb1.cell (p := ⟨w.heap.size, 3, none⟩) (by simp)).trans (by simp [go_sem])
  have c4 : w1.cell? ⟨w.heap.size, 4, none⟩ = some (.bool st) := (hb1.cell (p := ⟨w.heap.size, 4, none⟩) (by simp)).trans (by simp [go_sem])
  have hlt : w.heap.size < w1.heap.size := World.block_lt_of_cell? w1 _ c0
  clear hb1 H
  go_wp2_with fail
  go_region_held3 (fun w' => w'.cell? ⟨w.heap.size, 0, none⟩ = some (.int .i64 7) ∧ w'.cell? ⟨w.heap.size, 1, none⟩ = some (.string r))
    (first | go_keep | (go_split_ands; refine ⟨(hb2.cell (p := ⟨w.heap.size, 0, none⟩) hlt).trans c0, (hb2.cell (p := ⟨w.heap.size, 1, none⟩) hlt).trans c1⟩))
    ((go_at_call 121; refine (HW _).mono ?_; rintro e' w2 ⟨rfl, hb2⟩))
  have HB2 := hide (bstep (unhide HB1) ((below_drewN (Below.refl _ w1) 1).trans hb2))
  have d0 : w2.cell? ⟨w.heap.size, 0, none⟩ = some (.int .i64 7) := (hb2.cell (p := ⟨w.heap.size, 0, none⟩) hlt).trans c0
  have d1 : w2.cell? ⟨w.heap.size, 1, none⟩ = some (.string r) := (hb2.cell (p := ⟨w.heap.size, 1, none⟩) hlt).trans c1
  have d2 : w2.cell? ⟨w.heap.size, 2, none⟩ = some (.int .i64 0) := (hb2.cell (p := ⟨w.heap.size, 2, none⟩) hlt).trans c2
  have d3 : w2.cell? ⟨w.heap.size, 3, none⟩ = some (.bool false) := (hb2.cell (p := ⟨w.heap.size, 3, none⟩) hlt).trans c3
  have d4 : w2.cell? ⟨w.heap.size, 4, none⟩ = some (.bool st) := (hb2.cell (p := ⟨w.heap.size, 4, none⟩) hlt).trans c4
  have hlt2 : w.heap.size < w2.heap.size := World.block_lt_of_cell? w2 _ d0
  clear hb2
  go_wp2_with fail
  go_ret
  exact ⟨rfl, unhide HB2⟩

set_option maxHeartbeats 1600000 in
set_option maxRecDepth 100000 in
theorem check_oko (e : Int) (r : ByteArray) (g : Int) (fr st : Bool) (w : World) (n : Int) (hm : r.size ≤ maxLen) (he : 1 ≤ e ∧ e ≤ 7) (HW : ∀ w : World, Calls Tryz.prog 121 #[.int .i64 e, .string r] w fun e' w' => e' = .returned (.int .i64 n) ∧ Below w.heap.size w w') (hn : (n != (r.size : Int)) = false) (h6 : (e != 6) = true) (h7 : (e != 7) = true) (hg : g = 0) (hf : fr = false) (hs : st = false) :
    Calls Tryz.prog 60 #[.agg #[.int .i64 e, .string r, .int .i64 g, .bool fr, .bool st]] w fun e' w' => e' = .returned (.int .i64 0) ∧ Below w.heap.size w w' := by
  have H := fun w => kind_yes e w he
  unfold maxLen at hm
  subst hg hf hs
  go_enter Tryz.func60, Tryz.ntmps60
  go_wp2_with fail
  refine (H _).mono ?_
  rintro e' w1 ⟨rfl, hb1⟩
  have HB1 := hide (bstep (balloc _ _) hb1)
  have c0 : w1.cell? ⟨w.heap.size, 0, none⟩ = some (.int .i64 e) := (hb1.cell (p := ⟨w.heap.size, 0, none⟩) (by simp)).trans (by simp [go_sem])
  have c1 : w1.cell? ⟨w.heap.size, 1, none⟩ = some (.string r) := (hb1.cell (p := ⟨w.heap.size, 1, none⟩) (by simp)).trans (by simp [go_sem])
  have c2 : w1.cell? ⟨w.heap.size, 2, none⟩ = some (.int .i64 0) := (hb1.cell (p := ⟨w.heap.size, 2, none⟩) (by simp)).trans (by simp [go_sem])
  have c3 : w1.cell? ⟨w.heap.size, 3, none⟩ = some (.bool false) := (hb1.cell (p := ⟨w.heap.size, 3, none⟩) (by simp)).trans (by simp [go_sem])
  have c4 : w1.cell? ⟨w.heap.size, 4, none⟩ = some (.bool false) := (hb1.cell (p := ⟨w.heap.size, 4, none⟩) (by simp)).trans (by simp [go_sem])
  have hlt : w.heap.size < w1.heap.size := World.block_lt_of_cell? w1 _ c0
  clear hb1 H
  go_wp2_with fail
  go_region_held3 (fun w' => w'.cell? ⟨w.heap.size, 0, none⟩ = some (.int .i64 e) ∧ w'.cell? ⟨w.heap.size, 1, none⟩ = some (.string r))
    (first | go_keep | (go_split_ands; refine ⟨(hb2.cell (p := ⟨w.heap.size, 0, none⟩) hlt).trans c0, (hb2.cell (p := ⟨w.heap.size, 1, none⟩) hlt).trans c1⟩))
    ((go_at_call 121; refine (HW _).mono ?_; rintro e' w2 ⟨rfl, hb2⟩))
  have HB2 := hide (bstep (unhide HB1) ((below_drewN (Below.refl _ w1) 1).trans hb2))
  have d0 : w2.cell? ⟨w.heap.size, 0, none⟩ = some (.int .i64 e) := (hb2.cell (p := ⟨w.heap.size, 0, none⟩) hlt).trans c0
  have d1 : w2.cell? ⟨w.heap.size, 1, none⟩ = some (.string r) := (hb2.cell (p := ⟨w.heap.size, 1, none⟩) hlt).trans c1
  have d2 : w2.cell? ⟨w.heap.size, 2, none⟩ = some (.int .i64 0) := (hb2.cell (p := ⟨w.heap.size, 2, none⟩) hlt).trans c2
  have d3 : w2.cell? ⟨w.heap.size, 3, none⟩ = some (.bool false) := (hb2.cell (p := ⟨w.heap.size, 3, none⟩) hlt).trans c3
  have d4 : w2.cell? ⟨w.heap.size, 4, none⟩ = some (.bool false) := (hb2.cell (p := ⟨w.heap.size, 4, none⟩) hlt).trans c4
  have hlt2 : w.heap.size < w2.heap.size := World.block_lt_of_cell? w2 _ d0
  clear hb2
  go_wp2_with fail
  go_ret
  exact ⟨rfl, unhide HB2⟩

/-- What Check answers. -/
def chk (e : Int) (r : ByteArray) (t : M.St) : Int :=
  if ¬ (1 ≤ e ∧ e ≤ 7) then 6 else if ¬ (M.wE e (bl r) = r.size ∧ r.size ≤ 3) then 1 else if t.1 < 0 ∨ 2 < t.1 then 4 else if e ≠ 6 ∧ (t.1 ≠ 0 ∨ t.2.1 = true) then 4 else if e ≠ 7 ∧ t.2.2 = true then 4 else 0
theorem waits_val (e : Int) (r : ByteArray) (hm : r.size ≤ maxLen) (he : 1 ≤ e ∧ e ≤ 7) : ∃ n : Int, (∀ w : World, Calls Tryz.prog 121 #[.int .i64 e, .string r] w fun e' w' => e' = .returned (.int .i64 n) ∧ Below w.heap.size w w') ∧ (n = r.size ↔ M.wE e (bl r) = r.size ∧ r.size ≤ 3) := by
  have hb := M.wE_bd he (bl r)
  by_cases h8 : e = 1 → r.size ≤ 3000
  · exact ⟨_, fun w => waits_any e r w he hm h8, ⟨fun h => ⟨h, by omega⟩, fun h => h.1⟩⟩
  · have h1 : e = 1 := Classical.byContradiction (fun q => h8 (fun h => absurd h q))
    subst h1
    have h2 : 3000 < r.size := Nat.lt_of_not_le (fun q => h8 (fun _ => q))
    exact ⟨0, fun w => waits_long r w hm h2, ⟨fun h => by omega, fun h => by omega⟩⟩
theorem check_any (e : Int) (r : ByteArray) (t : M.St) (w : World) (hm : r.size ≤ maxLen) :
    Calls Tryz.prog 60 #[sv e r t] w fun e' w' => e' = .returned (.int .i64 (chk e r t)) ∧ Below w.heap.size w w' := by
  obtain ⟨g, fr, st⟩ := t
  unfold sv chk
  show Calls Tryz.prog 60 #[.agg #[.int .i64 e, .string r, .int .i64 g, .bool fr, .bool st]] w _
  by_cases he : 1 ≤ e ∧ e ≤ 7
  · rw [if_neg (fun q => q he)]
    obtain ⟨n, HW, hn⟩ := waits_val e r hm he
    by_cases hr : M.wE e (bl r) = r.size ∧ r.size ≤ 3
    · rw [if_neg (fun q => q hr)]
      have hn1 : (n != (r.size : Int)) = false := by simpa using hn.2 hr
      by_cases hg : g < 0 ∨ 2 < g
      · rw [if_pos hg]
        rcases hg with hg | hg
        · exact check_low e r g fr st w n hm he HW hn1 hg
        · exact check_high e r g fr st w n hm he HW hn1 hg
      · rw [if_neg hg]
        by_cases h6 : e = 6
        · rw [if_neg (fun q => q.1 h6)]
          cases st
          · rw [if_neg (by simp)]
            exact check_okk e r g fr false w n hm he HW hn1 h6 (by omega) (by omega) rfl
          · rw [if_pos ⟨by omega, rfl⟩]
            exact check_stopk e r g fr true w n hm he HW hn1 h6 (by omega) (by omega) rfl
        · have h6' : (e != 6) = true := by simpa using h6
          by_cases hg0 : g = 0
          · cases fr
            · rw [if_neg (by simp [hg0])]
              by_cases h7 : e = 7
              · rw [if_neg (fun q => q.1 h7)]
                exact check_okx e r g false st w n hm he HW hn1 h7 hg0 rfl
              · have h7' : (e != 7) = true := by simpa using h7
                cases st
                · rw [if_neg (by simp)]
                  exact check_oko e r g false false w n hm he HW hn1 h6' h7' hg0 rfl rfl
                · rw [if_pos ⟨h7, rfl⟩]
                  exact check_stopo e r g false true w n hm he HW hn1 h6' h7' hg0 rfl rfl
            · rw [if_pos ⟨h6, .inr rfl⟩]
              exact check_fresh e r g true st w n hm he HW hn1 h6' hg0 rfl
          · rw [if_pos ⟨h6, .inl hg0⟩]
            exact check_signs e r g fr st w n hm he HW hn1 (by omega) (by omega) h6' (by simpa using hg0)
    · rw [if_pos hr]
      have hn1 : (n != (r.size : Int)) = true := by simpa using fun h => hr (hn.1 h)
      exact check_form e r g fr st w n hm he HW hn1
  · rw [if_pos he]
    exact check_kind e r g fr st w he
theorem chk_ok {e : Int} {r : ByteArray} {t : M.St} : chk e r t = 0 ↔ (1 ≤ e ∧ e ≤ 7) ∧ (M.wE e (bl r) = r.size ∧ r.size ≤ 3) ∧ M.Ok e t := by
  unfold chk M.Ok M.Sg
  constructor
  · intro h
    split at h
    · omega
    · rename_i h1
      split at h
      · omega
      · rename_i h2
        split at h
        · omega
        · rename_i h3
          split at h
          · omega
          · rename_i h4
            split at h
            · omega
            · rename_i h5
              have h1' : 1 ≤ e ∧ e ≤ 7 := Classical.byContradiction h1
              have h2' : M.wE e (bl r) = r.size ∧ r.size ≤ 3 := Classical.byContradiction h2
              refine ⟨h1', h2', by omega, fun q => ?_, fun q => ?_⟩
              · refine ⟨Classical.byContradiction (fun z => h4 ⟨q, .inl z⟩), ?_⟩
                cases hf : t.2.1
                · rfl
                · exact absurd ⟨q, .inr hf⟩ h4
              · cases hf : t.2.2
                · rfl
                · exact absurd ⟨q, hf⟩ h5
  · rintro ⟨h1, h2, h3, h4, h5⟩
    rw [if_neg (fun q => q h1), if_neg (fun q => q h2), if_neg (by omega), if_neg, if_neg]
    · rintro ⟨q, z⟩; rw [h5 q] at z; cases z
    · rintro ⟨q, z⟩
      rcases z with z | z
      · exact z (h4 q).1
      · rw [(h4 q).2] at z; cases z
end Go.Proofs.YtaiinjfnkmidbaaGreatDoor

namespace Go.Proofs.YtaiinjfnkmidbaaGreatDoor
open Go.RowKit
set_option linter.unusedVariables false

/-- The cells of a state that is answered. -/
structure Rc (B : Nat) (w : World) : Prop where
  b0 : w.cell? ⟨B, 0, none⟩ = some (.int .i64 0)
  b1 : w.cell? ⟨B, 1, none⟩ = some (.string ⟨#[]⟩)
  b2 : w.cell? ⟨B, 2, none⟩ = some (.int .i64 0)
  b3 : w.cell? ⟨B, 3, none⟩ = some (.bool false)
  b4 : w.cell? ⟨B, 4, none⟩ = some (.bool false)
  g0 : w.frozen? ⟨B, 0, none⟩ = false
  g1 : w.frozen? ⟨B, 1, none⟩ = false
  g2 : w.frozen? ⟨B, 2, none⟩ = false
  g3 : w.frozen? ⟨B, 3, none⟩ = false
  g4 : w.frozen? ⟨B, 4, none⟩ = false
theorem Rc.below {B D : Nat} {w w2 : World} (h : Rc B w) (hb : Below D w w2) (hB : B < D) : Rc B w2 where
  b0 := (hb.cell (p := ⟨B, 0, none⟩) hB).trans h.b0
  b1 := (hb.cell (p := ⟨B, 1, none⟩) hB).trans h.b1
  b2 := (hb.cell (p := ⟨B, 2, none⟩) hB).trans h.b2
  b3 := (hb.cell (p := ⟨B, 3, none⟩) hB).trans h.b3
  b4 := (hb.cell (p := ⟨B, 4, none⟩) hB).trans h.b4
  g0 := (hb.frozen (p := ⟨B, 0, none⟩) hB).trans h.g0
  g1 := (hb.frozen (p := ⟨B, 1, none⟩) hB).trans h.g1
  g2 := (hb.frozen (p := ⟨B, 2, none⟩) hB).trans h.g2
  g3 := (hb.frozen (p := ⟨B, 3, none⟩) hB).trans h.g3
  g4 := (hb.frozen (p := ⟨B, 4, none⟩) hB).trans h.g4

set_option maxHeartbeats 800000 in
set_option maxRecDepth 100000 in
theorem open_yes (e : Int) (w : World) (he : 1 ≤ e ∧ e ≤ 7) : Calls Tryz.prog 45 #[.int .i64 e] w fun e' w' => e' = .returned (.tuple #[sv e ⟨#[]⟩ M.st0, .int .i64 0]) ∧ Below w.heap.size w w' := by
  have H := fun w => kind_yes e w he
  go_enter Tryz.func45, Tryz.ntmps45
  go_wp2_with fail
  refine (H _).mono ?_
  rintro e' w1 ⟨rfl, hb1⟩
  have hR : Rc w.heap.size w1 := Rc.below (w := w.alloc (.cells #[.int .i64 0, .string ⟨#[]⟩, .int .i64 0, .bool false, .bool false] 23)) (by constructor <;> simp [go_sem]) hb1 (by simp)
  obtain ⟨b0, b1, b2, b3, b4, g0, g1, g2, g3, g4⟩ := hR
  have hlt : w.heap.size < w1.heap.size := World.block_lt_of_cell? w1 _ b0
  have HB := hide (bstep (balloc _ _) hb1)
  clear hb1 H
  go_wp2_with fail
  refine bodyPost_ret (v := .tuple #[sv e ⟨#[]⟩ M.st0, .int .i64 0]) (by simp [results, Tryz.results45, go_sem, b0, b1, b2, b3, b4, sv, M.st0]) rfl ⟨rfl, ?_⟩
  exact bset (bset (bset (bset (bset (unhide HB) ⟨w.heap.size, 0, none⟩ _ (Nat.le_refl _)) ⟨w.heap.size, 1, none⟩ _ (Nat.le_refl _)) ⟨w.heap.size, 2, none⟩ _ (Nat.le_refl _)) ⟨w.heap.size, 3, none⟩ _ (Nat.le_refl _)) ⟨w.heap.size, 4, none⟩ _ (Nat.le_refl _)
set_option maxHeartbeats 800000 in
set_option maxRecDepth 100000 in
theorem open_no (e : Int) (w : World) (he : ¬ (1 ≤ e ∧ e ≤ 7)) : Calls Tryz.prog 45 #[.int .i64 e] w fun e' w' => e' = .returned (.tuple #[sv 0 ⟨#[]⟩ M.st0, .int .i64 6]) ∧ Below w.heap.size w w' := by
  have H := fun w => kind_no e w he
  go_enter Tryz.func45, Tryz.ntmps45
  go_wp2_with fail
  refine (H _).mono ?_
  rintro e' w1 ⟨rfl, hb1⟩
  have hR : Rc w.heap.size w1 := Rc.below (w := w.alloc (.cells #[.int .i64 0, .string ⟨#[]⟩, .int .i64 0, .bool false, .bool false] 23)) (by constructor <;> simp [go_sem]) hb1 (by simp)
  obtain ⟨b0, b1, b2, b3, b4, g0, g1, g2, g3, g4⟩ := hR
  have hlt : w.heap.size < w1.heap.size := World.block_lt_of_cell? w1 _ b0
  have HB := hide (bstep (balloc _ _) hb1)
  clear hb1 H
  go_wp2_with fail
  refine bodyPost_ret (v := .tuple #[sv 0 ⟨#[]⟩ M.st0, .int .i64 6]) (by simp [results, Tryz.results45, go_sem, b0, b1, b2, b3, b4, sv, M.st0]) rfl ⟨rfl, ?_⟩
  exact bset (bset (bset (bset (bset (unhide HB) ⟨w.heap.size, 0, none⟩ _ (Nat.le_refl _)) ⟨w.heap.size, 1, none⟩ _ (Nat.le_refl _)) ⟨w.heap.size, 2, none⟩ _ (Nat.le_refl _)) ⟨w.heap.size, 3, none⟩ _ (Nat.le_refl _)) ⟨w.heap.size, 4, none⟩ _ (Nat.le_refl _)

theorem feed_all (D : Nat) (e : Int) (r : ByteArray) (t : M.St) (xs : List Int) (p : ByteArray) (w : World) (he : 1 ≤ e ∧ e ≤ 7) (hk : M.Ok e t) (hr : r.size ≤ 3) (hs : p.size ≤ 3000) (hx : xs.length ≤ 10000) (hD : Dl D e r t xs w) :
    Calls Tryz.prog 100 #[.pointer (some ⟨D, 0, none⟩), .string p] w fun e' w' => e' = .returned (.tuple #[]) ∧ Taken D e t xs (bl r ++ bl p) w w' := by
  by_cases h : p.size ≤ 2997
  · exact feed_short D e r t xs p w he hk.1 hr h hx hD
  · exact feed_great D e r t xs p w he hk hr (by omega) hs hx hD

/-- What Feed answers: what is told, and the state then. -/
def Fed (e : Int) (r : ByteArray) (t : M.St) (p : ByteArray) (last : Bool) (w : World) (e' : Ending) (w' : World) : Prop :=
  ∃ v r' t' L, e' = .returned (.tuple #[v, sv e r' t', .int .i64 0]) ∧ w'.ownsRow w.heap.size 3 1 v L.length (L.map (Value.int .i64)) ∧ Below w.heap.size w w' ∧
    (last = false → L = (M.RE e t (bl r ++ bl p)).1 ∧ bl r' = (M.RE e t (bl r ++ bl p)).2.2 ∧ t' = (M.RE e t (bl r ++ bl p)).2.1) ∧
    (last = true → L = (M.TE e t (bl r ++ bl p)).1 ∧ r' = ⟨#[]⟩ ∧ t' = M.st0)

set_option maxHeartbeats 3000000 in
set_option maxRecDepth 100000 in
theorem feed_more (e : Int) (r : ByteArray) (t : M.St) (p : ByteArray) (w : World) (he : 1 ≤ e ∧ e ≤ 7) (hr : M.wE e (bl r) = r.size ∧ r.size ≤ 3) (hk : M.Ok e t) (hs : p.size ≤ 3000) :
    Calls Tryz.prog 46 #[sv e r t, .string p, .bool false] w (Fed e r t p false w) := by
  have HC := fun w => check_any e r t w (by unfold maxLen; omega)
  rw [chk_ok.2 ⟨he, hr, hk⟩] at HC
  have hr3 := hr.2
  clear hr
  unfold sv at *
  go_enter Tryz.func46, Tryz.ntmps46
  go_wp2_with fail
  refine (HC _).mono ?_
  rintro e' w1 ⟨rfl, hb1⟩
  have HR1 : Hid (Rc (w.heap.size + 1) w1) := hide (Rc.below (w := (w.alloc (.cells #[.int .i64 e, .string r, .int .i64 t.1, .bool t.2.1, .bool t.2.2] 23)).alloc (.cells #[.int .i64 0, .string ⟨#[]⟩, .int .i64 0, .bool false, .bool false] 23)) (by constructor <;> simp [go_sem]) hb1 (by simp))
  have a0 : w1.cell? ⟨w.heap.size, 0, none⟩ = some (.int .i64 e) := (hb1.cell (p := ⟨w.heap.size, 0, none⟩) (by simp; omega)).trans (by simp [go_sem])
  have a1 : w1.cell? ⟨w.heap.size, 1, none⟩ = some (.string r) := (hb1.cell (p := ⟨w.heap.size, 1, none⟩) (by simp; omega)).trans (by simp [go_sem])
  have a2 : w1.cell? ⟨w.heap.size, 2, none⟩ = some (.int .i64 t.1) := (hb1.cell (p := ⟨w.heap.size, 2, none⟩) (by simp; omega)).trans (by simp [go_sem])
  have a3 : w1.cell? ⟨w.heap.size, 3, none⟩ = some (.bool t.2.1) := (hb1.cell (p := ⟨w.heap.size, 3, none⟩) (by simp; omega)).trans (by simp [go_sem])
  have a4 : w1.cell? ⟨w.heap.size, 4, none⟩ = some (.bool t.2.2) := (hb1.cell (p := ⟨w.heap.size, 4, none⟩) (by simp; omega)).trans (by simp [go_sem])
  have HB1 := hide (bstep (bstep (balloc _ _) (balloc _ _)) hb1)
  have hz1 : w.heap.size + 2 ≤ w1.heap.size := by have := hb1.size; simp at this; omega
  have hlt0 : w.heap.size < w1.heap.size := by omega
  clear hb1 HC
  go_wp2_with fail
  have HDl : Hid (Dl w1.heap.size e r t [] (w1.alloc (.cells #[.int .i64 e, .string r, .int .i64 t.1, .bool t.2.1, .bool t.2.2, .slice none 0 0] 125))) := hide ⟨.slice none 0 0, by constructor <;> simp [go_sem], World.ownsRow_nil _ _ _ _⟩
  refine (feed_all w1.heap.size e r t [] p _ he hk hr3 hs (by simp) (unhide HDl)).mono ?_
  rintro e' w2 ⟨rfl, r2, hr2, hD2, hB2⟩
  rw [List.nil_append] at hD2
  have HR2 := hide (((unhide HR1).below (balloc w1 (.cells #[.int .i64 e, .string r, .int .i64 t.1, .bool t.2.1, .bool t.2.2, .slice none 0 0] 125)) (by omega)).below hB2 (by omega))
  have HB2 := hide ((bstep (unhide HB1) (balloc w1 (.cells #[.int .i64 e, .string r, .int .i64 t.1, .bool t.2.1, .bool t.2.2, .slice none 0 0] 125))).trans (hB2.mono (by omega)))
  have HFew := hide (M.RE_few he t (bl r ++ bl p))
  have HOut := hide (M.RE_out he t (bl r ++ bl p))
  have HOk := hide (M.Ok_run he hk (bl r ++ bl p))
  have hlen : (bl r ++ bl p).length ≤ 3003 := by rw [List.length_append, bl_len, bl_len]; omega
  have HTE := hide (M.TE_run e t (bl r ++ bl p))
  have HDX := hide hD2
  have HRX := HR2
  have HBX := HB2
  have HL : Hid ((M.RE e t (bl r ++ bl p)).1 = (M.RE e t (bl r ++ bl p)).1) := hide rfl
  have HR' := hide hr2
  have HT' : Hid ((M.RE e t (bl r ++ bl p)).2.1 = (M.RE e t (bl r ++ bl p)).2.1) := hide rfl
  obtain ⟨D, hDD⟩ : ∃ D, w1.heap.size = D := ⟨_, rfl⟩
  rw [hDD] at hz1 hlt0 HDX
  clear hB2 HDl HOut HOk HFew HTE hD2 hr2
  generalize hL0 : (M.RE e t (bl r ++ bl p)).1 = L at HDX HL
  generalize hT0 : (M.RE e t (bl r ++ bl p)).2.1 = t2 at HDX HT'
  have HL0 := hide hL0
  have HT0 := hide hT0
  clear hL0 hT0
  obtain ⟨vv, hCx, hox⟩ := unhide HDX
  obtain ⟨ax, cx, hsx⟩ := owns_shape hox
  subst hsx
  have HIX := hide hox
  obtain ⟨d0, d1, d2, d3, d4, d5, k0, k1, k2, k3, k4, k5⟩ := hCx
  obtain ⟨b0, b1, b2, b3, b4, g0, g1, g2, g3, g4⟩ := unhide HRX
  have hDX : D < w2.heap.size := World.block_lt_of_cell? w2 _ d0
  have hBX : w.heap.size + 1 < w2.heap.size := by omega
  have hne : ¬ (w.heap.size + 1 = D) := by omega
  have hne' : ¬ (D = w.heap.size + 1) := by omega
  clear hox
  go_wp2_with fail
  go_region
  all_goals
    go_wp2_with fail
    refine bodyPost_ret (v := .tuple #[.slice ax L.length cx, .agg #[.int .i64 e, .string r2, .int .i64 t2.1, .bool t2.2.1, .bool t2.2.2], .int .i64 0]) (by simp [results, Tryz.results46, go_sem, b0, b1, b2, b3, b4]) rfl ?_
    refine ⟨.slice ax L.length cx, r2, t2, L, rfl, ?_, ?_, ?_, ?_⟩
    · exact owns_below (owns_mono (owns_set (owns_set (owns_set (owns_set (owns_set (unhide HIX) ⟨w.heap.size + 1, 0, none⟩ (by simp; omega) _) ⟨w.heap.size + 1, 1, none⟩ (by simp; omega) _) ⟨w.heap.size + 1, 2, none⟩ (by simp; omega) _) ⟨w.heap.size + 1, 3, none⟩ (by simp; omega) _) ⟨w.heap.size + 1, 4, none⟩ (by simp; omega) _) (by omega)) (below_drewN (Below.refl _ _) 1)
    · exact below_drewN (bset (bset (bset (bset (bset (unhide HBX) ⟨w.heap.size + 1, 0, none⟩ _ (by simp)) ⟨w.heap.size + 1, 1, none⟩ _ (by simp)) ⟨w.heap.size + 1, 2, none⟩ _ (by simp)) ⟨w.heap.size + 1, 3, none⟩ _ (by simp)) ⟨w.heap.size + 1, 4, none⟩ _ (by simp)) 1
    · intro _; exact ⟨(unhide HL0).symm, unhide HR', (unhide HT0).symm⟩
    · intro h; cases h

set_option maxHeartbeats 3000000 in
set_option maxRecDepth 100000 in
theorem feed_last (e : Int) (r : ByteArray) (t : M.St) (p : ByteArray) (w : World) (he : 1 ≤ e ∧ e ≤ 7) (hr : M.wE e (bl r) = r.size ∧ r.size ≤ 3) (hk : M.Ok e t) (hs : p.size ≤ 3000) :
    Calls Tryz.prog 46 #[sv e r t, .string p, .bool true] w (Fed e r t p true w) := by
  have HC := fun w => check_any e r t w (by unfold maxLen; omega)
  rw [chk_ok.2 ⟨he, hr, hk⟩] at HC
  have hr3 := hr.2
  clear hr
  unfold sv at *
  go_enter Tryz.func46, Tryz.ntmps46
  go_wp2_with fail
  refine (HC _).mono ?_
  rintro e' w1 ⟨rfl, hb1⟩
  have HR1 : Hid (Rc (w.heap.size + 1) w1) := hide (Rc.below (w := (w.alloc (.cells #[.int .i64 e, .string r, .int .i64 t.1, .bool t.2.1, .bool t.2.2] 23)).alloc (.cells #[.int .i64 0, .string ⟨#[]⟩, .int .i64 0, .bool false, .bool false] 23)) (by constructor <;> simp [go_sem]) hb1 (by simp))
  have a0 : w1.cell? ⟨w.heap.size, 0, none⟩ = some (.int .i64 e) := (hb1.cell (p := ⟨w.heap.size, 0, none⟩) (by simp; omega)).trans (by simp [go_sem])
  have a1 : w1.cell? ⟨w.heap.size, 1, none⟩ = some (.string r) := (hb1.cell (p := ⟨w.heap.size, 1, none⟩) (by simp; omega)).trans (by simp [go_sem])
  have a2 : w1.cell? ⟨w.heap.size, 2, none⟩ = some (.int .i64 t.1) := (hb1.cell (p := ⟨w.heap.size, 2, none⟩) (by simp; omega)).trans (by simp [go_sem])
  have a3 : w1.cell? ⟨w.heap.size, 3, none⟩ = some (.bool t.2.1) := (hb1.cell (p := ⟨w.heap.size, 3, none⟩) (by simp; omega)).trans (by simp [go_sem])
  have a4 : w1.cell? ⟨w.heap.size, 4, none⟩ = some (.bool t.2.2) := (hb1.cell (p := ⟨w.heap.size, 4, none⟩) (by simp; omega)).trans (by simp [go_sem])
  have HB1 := hide (bstep (bstep (balloc _ _) (balloc _ _)) hb1)
  have hz1 : w.heap.size + 2 ≤ w1.heap.size := by have := hb1.size; simp at this; omega
  have hlt0 : w.heap.size < w1.heap.size := by omega
  clear hb1 HC
  go_wp2_with fail
  have HDl : Hid (Dl w1.heap.size e r t [] (w1.alloc (.cells #[.int .i64 e, .string r, .int .i64 t.1, .bool t.2.1, .bool t.2.2, .slice none 0 0] 125))) := hide ⟨.slice none 0 0, by constructor <;> simp [go_sem], World.ownsRow_nil _ _ _ _⟩
  refine (feed_all w1.heap.size e r t [] p _ he hk hr3 hs (by simp) (unhide HDl)).mono ?_
  rintro e' w2 ⟨rfl, r2, hr2, hD2, hB2⟩
  rw [List.nil_append] at hD2
  have HR2 := hide (((unhide HR1).below (balloc w1 (.cells #[.int .i64 e, .string r, .int .i64 t.1, .bool t.2.1, .bool t.2.2, .slice none 0 0] 125)) (by omega)).below hB2 (by omega))
  have HB2 := hide ((bstep (unhide HB1) (balloc w1 (.cells #[.int .i64 e, .string r, .int .i64 t.1, .bool t.2.1, .bool t.2.2, .slice none 0 0] 125))).trans (hB2.mono (by omega)))
  have HFew := hide (M.RE_few he t (bl r ++ bl p))
  have HOut := hide (M.RE_out he t (bl r ++ bl p))
  have HOk := hide (M.Ok_run he hk (bl r ++ bl p))
  have hlen : (bl r ++ bl p).length ≤ 3003 := by rw [List.length_append, bl_len, bl_len]; omega
  have HTE := hide (M.TE_run e t (bl r ++ bl p))
  have hr23 : r2.size ≤ 3 := by rw [← bl_len, hr2]; exact unhide HFew
  have HE := end_any w1.heap.size e r2 _ _ w2 he (unhide HOk).1 hr23 (by have := unhide HOut; omega) hD2
  have HL : Hid ((M.RE e t (bl r ++ bl p)).1 ++ (M.TE e (M.RE e t (bl r ++ bl p)).2.1 (bl r2)).1 = (M.TE e t (bl r ++ bl p)).1) := hide (by rw [hr2, unhide HTE])
  generalize (M.RE e t (bl r ++ bl p)).1 ++ (M.TE e (M.RE e t (bl r ++ bl p)).2.1 (bl r2)).1 = L at *
  have hD2c := hD2
  obtain ⟨v2, hC2, ho2⟩ := hD2c
  obtain ⟨m0, m1, m2, m3, m4, m5, n0, n1, n2, n3, n4, n5⟩ := hC2
  clear hB2 ho2 HDl HOut HOk HFew HTE
  obtain ⟨D, hDD⟩ : ∃ D, w1.heap.size = D := ⟨_, rfl⟩
  rw [hDD] at hz1 hlt0 HE
  go_wp2_with fail
  refine HE.mono ?_
  rintro e' w3 ⟨rfl, hD3, hB3⟩
  have HDX := hide hD3
  have HRX := hide ((unhide HR2).below hB3 (by omega))
  have HBX := hide ((unhide HB2).trans (hB3.mono (by omega)))
  clear HE hD3 hB3 hD2
  obtain ⟨vv, hCx, hox⟩ := unhide HDX
  obtain ⟨ax, cx, hsx⟩ := owns_shape hox
  subst hsx
  have HIX := hide hox
  obtain ⟨d0, d1, d2, d3, d4, d5, k0, k1, k2, k3, k4, k5⟩ := hCx
  obtain ⟨b0, b1, b2, b3, b4, g0, g1, g2, g3, g4⟩ := unhide HRX
  have hDX : D < w3.heap.size := World.block_lt_of_cell? w3 _ d0
  have hBX : w.heap.size + 1 < w3.heap.size := by omega
  have hne : ¬ (w.heap.size + 1 = D) := by omega
  have hne' : ¬ (D = w.heap.size + 1) := by omega
  clear hox
  go_wp2_with fail
  go_region
  all_goals
    go_wp2_with fail
    refine bodyPost_ret (v := .tuple #[.slice ax L.length cx, .agg #[.int .i64 e, .string ⟨#[]⟩, .int .i64 M.st0.1, .bool M.st0.2.1, .bool M.st0.2.2], .int .i64 0]) (by simp [results, Tryz.results46, go_sem, b0, b1, b2, b3, b4]) rfl ?_
    refine ⟨.slice ax L.length cx, ⟨#[]⟩, M.st0, L, rfl, ?_, ?_, ?_, ?_⟩
    · exact owns_below (owns_mono (owns_set (owns_set (owns_set (owns_set (owns_set (unhide HIX) ⟨w.heap.size + 1, 0, none⟩ (by simp; omega) _) ⟨w.heap.size + 1, 1, none⟩ (by simp; omega) _) ⟨w.heap.size + 1, 2, none⟩ (by simp; omega) _) ⟨w.heap.size + 1, 3, none⟩ (by simp; omega) _) ⟨w.heap.size + 1, 4, none⟩ (by simp; omega) _) (by omega)) (below_drewN (Below.refl _ _) 1)
    · exact below_drewN (bset (bset (bset (bset (bset (unhide HBX) ⟨w.heap.size + 1, 0, none⟩ _ (by simp)) ⟨w.heap.size + 1, 1, none⟩ _ (by simp)) ⟨w.heap.size + 1, 2, none⟩ _ (by simp)) ⟨w.heap.size + 1, 3, none⟩ _ (by simp)) ⟨w.heap.size + 1, 4, none⟩ _ (by simp)) 1
    · intro h; cases h
    · intro _; exact ⟨unhide HL, rfl, rfl⟩
end Go.Proofs.YtaiinjfnkmidbaaGreatDoor

namespace Go.Proofs.YtaiinjfnkmidbaaGreatDoor
open Go.RowKit
set_option linter.unusedVariables false

/-- A state in memory. -/
structure Sc (B : Nat) (e : Int) (r : ByteArray) (t : M.St) (w : World) : Prop where
  c0 : w.cell? ⟨B, 0, none⟩ = some (.int .i64 e)
  c1 : w.cell? ⟨B, 1, none⟩ = some (.string r)
  c2 : w.cell? ⟨B, 2, none⟩ = some (.int .i64 t.1)
  c3 : w.cell? ⟨B, 3, none⟩ = some (.bool t.2.1)
  c4 : w.cell? ⟨B, 4, none⟩ = some (.bool t.2.2)
  f0 : w.frozen? ⟨B, 0, none⟩ = false
  f1 : w.frozen? ⟨B, 1, none⟩ = false
  f2 : w.frozen? ⟨B, 2, none⟩ = false
  f3 : w.frozen? ⟨B, 3, none⟩ = false
  f4 : w.frozen? ⟨B, 4, none⟩ = false
theorem Sc.below {B D : Nat} {e : Int} {r : ByteArray} {t : M.St} {w w2 : World} (h : Sc B e r t w) (hb : Below D w w2) (hB : B < D) : Sc B e r t w2 where
  c0 := (hb.cell (p := ⟨B, 0, none⟩) hB).trans h.c0
  c1 := (hb.cell (p := ⟨B, 1, none⟩) hB).trans h.c1
  c2 := (hb.cell (p := ⟨B, 2, none⟩) hB).trans h.c2
  c3 := (hb.cell (p := ⟨B, 3, none⟩) hB).trans h.c3
  c4 := (hb.cell (p := ⟨B, 4, none⟩) hB).trans h.c4
  f0 := (hb.frozen (p := ⟨B, 0, none⟩) hB).trans h.f0
  f1 := (hb.frozen (p := ⟨B, 1, none⟩) hB).trans h.f1
  f2 := (hb.frozen (p := ⟨B, 2, none⟩) hB).trans h.f2
  f3 := (hb.frozen (p := ⟨B, 3, none⟩) hB).trans h.f3
  f4 := (hb.frozen (p := ⟨B, 4, none⟩) hB).trans h.f4
theorem Sc.lt {B : Nat} {e : Int} {r : ByteArray} {t : M.St} {w : World} (h : Sc B e r t w) : B < w.heap.size := World.block_lt_of_cell? w _ h.c0
theorem Sc.on {B : Nat} {e : Int} {r : ByteArray} {t : M.St} {w w2 : World} (h : Sc B e r t w) (hb : Below w.heap.size w w2) : Sc B e r t w2 := h.below hb h.lt
theorem Sc.new (w : World) (e : Int) (r : ByteArray) (t : M.St) : Sc w.heap.size e r t (w.alloc (.cells #[.int .i64 e, .string r, .int .i64 t.1, .bool t.2.1, .bool t.2.2] 23)) := by constructor <;> simp [go_sem]
theorem Sc.put {B : Nat} {w : World} (h : Rc B w) (e : Int) (r : ByteArray) (t : M.St) : Sc B e r t (((((w.setCell ⟨B, 0, none⟩ (.int .i64 e)).setCell ⟨B, 1, none⟩ (.string r)).setCell ⟨B, 2, none⟩ (.int .i64 t.1)).setCell ⟨B, 3, none⟩ (.bool t.2.1)).setCell ⟨B, 4, none⟩ (.bool t.2.2)) := by
  obtain ⟨b0, b1, b2, b3, b4, g0, g1, g2, g3, g4⟩ := h
  constructor <;> simp [go_sem, b0, b1, b2, b3, b4, g0, g1, g2, g3, g4]
theorem Sc.rc {B : Nat} {w : World} {r : ByteArray} {e : Int} {t : M.St} (h : Sc B e r t w) (e2 : Int) (r2 : ByteArray) (t2 : M.St) : Sc B e2 r2 t2 (((((w.setCell ⟨B, 0, none⟩ (.int .i64 e2)).setCell ⟨B, 1, none⟩ (.string r2)).setCell ⟨B, 2, none⟩ (.int .i64 t2.1)).setCell ⟨B, 3, none⟩ (.bool t2.2.1)).setCell ⟨B, 4, none⟩ (.bool t2.2.2)) := by
  obtain ⟨b0, b1, b2, b3, b4, g0, g1, g2, g3, g4⟩ := h
  constructor <;> simp [go_sem, b0, b1, b2, b3, b4, g0, g1, g2, g3, g4]
theorem bset5 {B D : Nat} {w0 w : World} {e : Int} {r : ByteArray} {t : M.St} (h : Below D w0 w) (hB : D ≤ B) : Below D w0 (((((w.setCell ⟨B, 0, none⟩ (.int .i64 e)).setCell ⟨B, 1, none⟩ (.string r)).setCell ⟨B, 2, none⟩ (.int .i64 t.1)).setCell ⟨B, 3, none⟩ (.bool t.2.1)).setCell ⟨B, 4, none⟩ (.bool t.2.2)) := (bset (bset (bset (bset (bset h ⟨B, 0, none⟩ _ hB) ⟨B, 1, none⟩ _ hB) ⟨B, 2, none⟩ _ hB) ⟨B, 3, none⟩ _ hB) ⟨B, 4, none⟩ _ hB)
theorem oset5 {B D : Nat} {w : World} {e : Int} {r : ByteArray} {t : M.St} {v : Value} {n : Nat} {xs : List Value} (h : w.ownsRow D 3 1 v n xs) (hB : B < D) : (((((w.setCell ⟨B, 0, none⟩ (.int .i64 e)).setCell ⟨B, 1, none⟩ (.string r)).setCell ⟨B, 2, none⟩ (.int .i64 t.1)).setCell ⟨B, 3, none⟩ (.bool t.2.1)).setCell ⟨B, 4, none⟩ (.bool t.2.2)).ownsRow D 3 1 v n xs := (owns_set (owns_set (owns_set (owns_set (owns_set h ⟨B, 0, none⟩ hB _) ⟨B, 1, none⟩ hB _) ⟨B, 2, none⟩ hB _) ⟨B, 3, none⟩ hB _) ⟨B, 4, none⟩ hB _)
def s1 : ByteArray := ⟨#[97, 226, 130]⟩
def s2 : ByteArray := ⟨#[172, 226]⟩
def s3 : ByteArray := ⟨#[120, 121, 122]⟩
def s4 : ByteArray := ⟨#[226, 130]⟩
end Go.Proofs.YtaiinjfnkmidbaaGreatDoor

namespace Go.Proofs.YtaiinjfnkmidbaaGreatDoor
open Go.RowKit
set_option linter.unusedVariables false

def InF (W : World) (e : Int) (r : ByteArray) (t : M.St) (p : ByteArray) (last : Bool) (a x f : Value) (wx : World) : Prop :=
  ∃ av cv r' t' L B, a = .slice av L.length cv ∧ x = .pointer (some ⟨B, 0, none⟩) ∧ f = .int .i64 0 ∧ Sc B e r' t' wx ∧ Ints wx (.slice av L.length cv) L ∧ Below W.heap.size W wx ∧
    (last = false → L = (M.RE e t (bl r ++ bl p)).1 ∧ bl r' = (M.RE e t (bl r ++ bl p)).2.2 ∧ t' = (M.RE e t (bl r ++ bl p)).2.1) ∧
    (last = true → L = (M.TE e t (bl r ++ bl p)).1 ∧ r' = ⟨#[]⟩ ∧ t' = M.st0)
theorem InF.a {W w1 : World} {e : Int} {r p r' : ByteArray} {t t' : M.St} {last : Bool} {av : Option Addr} {cv : Nat} {L : List Int} (HW : Below W.heap.size W w1) (HI : w1.ownsRow W.heap.size 3 1 (.slice av L.length cv) L.length (L.map (Value.int .i64)))
    (h1 : last = false → L = (M.RE e t (bl r ++ bl p)).1 ∧ bl r' = (M.RE e t (bl r ++ bl p)).2.2 ∧ t' = (M.RE e t (bl r ++ bl p)).2.1) (h2 : last = true → L = (M.TE e t (bl r ++ bl p)).1 ∧ r' = ⟨#[]⟩ ∧ t' = M.st0) :
    InF W e r t p last (.slice av L.length cv) (.pointer (some ⟨w1.heap.size, 0, none⟩)) (.int .i64 0) (w1.alloc (.cells #[.int .i64 e, .string r', .int .i64 t'.1, .bool t'.2.1, .bool t'.2.2] 23)) :=
  ⟨av, cv, r', t', L, w1.heap.size, rfl, rfl, rfl, Sc.new w1 e r' t', (Ints.of_owns HI).below (balloc _ _), bstep HW (balloc _ _), h1, h2⟩
theorem InF.b {W w1 : World} {e : Int} {r p r' : ByteArray} {t t' : M.St} {last : Bool} {av : Option Addr} {cv : Nat} {L : List Int} (HW : Below W.heap.size W w1) (HR : Rc W.heap.size w1) (HI : w1.ownsRow (W.heap.size + 1) 3 1 (.slice av L.length cv) L.length (L.map (Value.int .i64)))
    (h1 : last = false → L = (M.RE e t (bl r ++ bl p)).1 ∧ bl r' = (M.RE e t (bl r ++ bl p)).2.2 ∧ t' = (M.RE e t (bl r ++ bl p)).2.1) (h2 : last = true → L = (M.TE e t (bl r ++ bl p)).1 ∧ r' = ⟨#[]⟩ ∧ t' = M.st0) :
    InF W e r t p last (.slice av L.length cv) (.pointer (some ⟨W.heap.size, 0, none⟩)) (.int .i64 0) (((((w1.setCell ⟨W.heap.size, 0, none⟩ (.int .i64 e)).setCell ⟨W.heap.size, 1, none⟩ (.string r')).setCell ⟨W.heap.size, 2, none⟩ (.int .i64 t'.1)).setCell ⟨W.heap.size, 3, none⟩ (.bool t'.2.1)).setCell ⟨W.heap.size, 4, none⟩ (.bool t'.2.2)) :=
  ⟨av, cv, r', t', L, W.heap.size, rfl, rfl, rfl, Sc.put HR e r' t', Ints.of_owns (oset5 HI (Nat.lt_succ_self _)), bset5 HW (Nat.le_refl _), h1, h2⟩
theorem M.TE_app (e : Int) (t : M.St) (l m : List Int) : M.TE e t (l ++ m) = ((M.RE e t l).1 ++ (M.TE e (M.RE e t l).2.1 ((M.RE e t l).2.2 ++ m)).1, (M.TE e (M.RE e t l).2.1 ((M.RE e t l).2.2 ++ m)).2) := by
  rw [M.TE_run e t (l ++ m), M.RE_app e t l m, M.TE_run e (M.RE e t l).2.1 ((M.RE e t l).2.2 ++ m)]
  simp [List.append_assoc]
end Go.Proofs.YtaiinjfnkmidbaaGreatDoor

namespace Go.Proofs.YtaiinjfnkmidbaaGreatDoor
open Go.RowKit
set_option linter.unusedVariables false

/-- A front. -/
structure Fr where
  L : ByteArray
  enc : Int
  why : Int
  W : ByteArray
  e : Int
  r : ByteArray
  t : M.St
def Fr.v (f : Fr) : Value := .agg #[.string f.L, .int .i64 f.enc, .int .i64 f.why, .string f.W, .int .i64 f.e, .string f.r, .int .i64 f.t.1, .bool f.t.2.1, .bool f.t.2.2]
/-- The front at the beginning. -/
def Fr.new (L : ByteArray) : Fr := ⟨L, 0, 0, ⟨#[]⟩, 0, ⟨#[]⟩, M.st0⟩
/-- The error of a front, or 0. -/
def Fr.chk (f : Fr) : Int :=
  if 3000 < f.L.size ∨ 3000 < f.W.size then 2 else if ¬ (0 ≤ f.enc ∧ f.enc ≤ 7) then 6 else if ¬ (0 ≤ f.why ∧ f.why ≤ 4) ∨ (f.why = 0 ∧ f.enc ≠ 0) ∨ (f.why ≠ 0 ∧ f.enc = 0) then 4
  else if (f.why = 0 ∧ ¬ (f.e = 0 ∧ f.r.size = 0 ∧ f.t = M.st0)) ∨ (f.why ≠ 0 ∧ (f.W.size ≠ 0 ∨ f.e ≠ f.enc)) then 1
  else if f.why = 0 then (if enF f.L (bl f.W) = true then 4 else 0) else Go.Proofs.YtaiinjfnkmidbaaGreatDoor.chk f.e f.r f.t
/-- A front that has chosen from bytes l: what it has told, and itself. -/
def Fr.got (L : ByteArray) (l : List Int) : Fr := ⟨L, (chI L l).1, (chI L l).2.1, ⟨#[]⟩, (chI L l).1, strOfNums (M.RE (chI L l).1 M.st0 (l.drop (chI L l).2.2.toNat)).2.2, (M.RE (chI L l).1 M.st0 (l.drop (chI L l).2.2.toNat)).2.1⟩
def gotO (L : ByteArray) (l : List Int) : List Int := (M.RE (chI L l).1 M.st0 (l.drop (chI L l).2.2.toNat)).1
/-- What is told of bytes that come, and the front then. -/
def Fr.outs (f : Fr) (p : ByteArray) (last : Bool) : List Int :=
  if f.why = 0 then (if last = true then whI f.L (bl f.W ++ bl p) else if enF f.L (bl f.W ++ bl p) = true then gotO f.L (bl f.W ++ bl p) else [])
  else if last = true then (M.TE f.e f.t (bl f.r ++ bl p)).1 else (M.RE f.e f.t (bl f.r ++ bl p)).1
def Fr.nxt (f : Fr) (p : ByteArray) (last : Bool) : Fr :=
  if last = true then Fr.new f.L
  else if f.why = 0 then (if enF f.L (bl f.W ++ bl p) = true then Fr.got f.L (bl f.W ++ bl p) else ⟨f.L, f.enc, f.why, f.W ++ p, f.e, f.r, f.t⟩)
  else ⟨f.L, f.enc, f.why, f.W, f.e, strOfNums (M.RE f.e f.t (bl f.r ++ bl p)).2.2, (M.RE f.e f.t (bl f.r ++ bl p)).2.1⟩
/-- What a front is behind bytes x, and what it has told. -/
def Infr (L : ByteArray) (x : ByteArray) (f : Fr) (out : List Int) : Prop :=
  (enF L (bl x) = false ∧ f = ⟨L, 0, 0, x, 0, ⟨#[]⟩, M.st0⟩ ∧ out = []) ∨ (enF L (bl x) = true ∧ f = Fr.got L (bl x) ∧ out = gotO L (bl x))
theorem enF_nil (L : ByteArray) : enF L [] = false := by
  unfold enF
  rw [show (M.sn []).1 = 0 from by decide]
  simp
theorem Infr.start (L : ByteArray) : Infr L ⟨#[]⟩ (Fr.new L) [] := .inl ⟨by rw [show bl ⟨#[]⟩ = [] from rfl]; exact enF_nil L, rfl, rfl⟩
theorem chI_ne (L : ByteArray) (l : List Int) : (chI L l).2.1 ≠ 0 := by have := chI_bd L l; omega
theorem rest_byt {e : Int} (he : 1 ≤ e ∧ e ≤ 7) (t : M.St) {l : List Int} (h : ∀ x ∈ l, 0 ≤ x ∧ x ≤ 255) : bl (strOfNums (M.RE e t l).2.2) = (M.RE e t l).2.2 :=
  bl_str _ (by rw [M.RE_rest he]; intro x hx; exact h x (List.mem_of_mem_drop hx))
theorem drop_app {l m : List Int} {k : Int} (h : k ≤ l.length) : (l ++ m).drop k.toNat = l.drop k.toNat ++ m := by
  rw [List.drop_append_of_le_length (by omega)]
theorem byt_drop {x : ByteArray} (k : Nat) : ∀ y ∈ (bl x).drop k, 0 ≤ y ∧ y ≤ 255 := fun y hy => bl_byt x y (List.mem_of_mem_drop hy)
theorem Infr.step {L x : ByteArray} {f : Fr} {out : List Int} (h : Infr L x f out) (p : ByteArray) : Infr L (x ++ p) (f.nxt p false) (out ++ f.outs p false) := by
  unfold Infr
  rw [bl_app]
  rcases h with ⟨he, rfl, rfl⟩ | ⟨he, rfl, rfl⟩
  · unfold Fr.nxt Fr.outs
    simp only [if_true, Bool.false_eq_true, if_false]
    cases hq : enF L (bl x ++ bl p)
    · exact .inl ⟨rfl, by simp, by simp⟩
    · exact .inr ⟨rfl, by simp, by simp⟩
  · have hm := chI_more he (bl p)
    have hb := chI_bd L (bl x)
    refine .inr ⟨enF_more he _, ?_, ?_⟩
    · unfold Fr.nxt Fr.got
      simp only [Bool.false_eq_true, if_false, chI_ne, hm]
      rw [drop_app hb.2.2.2.2, rest_byt hb.1 _ (byt_drop _), M.RE_app _ M.st0 ((bl x).drop (chI L (bl x)).2.2.toNat)]
    · unfold Fr.outs gotO Fr.got
      simp only [Bool.false_eq_true, if_false, chI_ne, hm]
      rw [drop_app hb.2.2.2.2, rest_byt hb.1 _ (byt_drop _), M.RE_app _ M.st0 ((bl x).drop (chI L (bl x)).2.2.toNat)]
theorem Infr.last {L x : ByteArray} {f : Fr} {out : List Int} (h : Infr L x f out) (p : ByteArray) : f.nxt p true = Fr.new L ∧ out ++ f.outs p true = whI L (bl (x ++ p)) := by
  rw [bl_app]
  rcases h with ⟨he, rfl, rfl⟩ | ⟨he, rfl, rfl⟩
  · exact ⟨rfl, by unfold Fr.outs; simp⟩
  · have hm := chI_more he (bl p)
    have hb := chI_bd L (bl x)
    refine ⟨rfl, ?_⟩
    unfold Fr.outs gotO Fr.got whI M.decE
    simp only [if_true, chI_ne, if_false, hm]
    rw [drop_app hb.2.2.2.2, rest_byt hb.1 _ (byt_drop _), M.TE_app _ M.st0 ((bl x).drop (chI L (bl x)).2.2.toNat)]
theorem got_chk {L : ByteArray} {x : ByteArray} (hL : L.size ≤ 3000) : (Fr.got L (bl x)).chk = 0 := by
  have hb := chI_bd L (bl x)
  have hk : Go.Proofs.YtaiinjfnkmidbaaGreatDoor.chk (Fr.got L (bl x)).e (Fr.got L (bl x)).r (Fr.got L (bl x)).t = 0 := by
    rw [chk_ok]
    unfold Fr.got
    simp only
    have hr := rest_byt hb.1 M.st0 (byt_drop (x := x) (chI L (bl x)).2.2.toNat)
    refine ⟨hb.1, ⟨?_, ?_⟩, M.Ok_run hb.1 (M.Ok_st0 _) _⟩
    · rw [hr, strOfNums_size]; exact M.RE_left hb.1 _ _
    · rw [strOfNums_size]; exact M.RE_few hb.1 _ _
  unfold Fr.chk
  rw [hk]
  have hw := chI_ne L (bl x)
  unfold Fr.got
  simp only
  have z : (⟨#[]⟩ : ByteArray).size = 0 := rfl
  rw [if_neg (by rw [z]; omega), if_neg (by omega), if_neg (by omega), if_neg (by rw [z]; rintro (h | h); exact hw h.1; exact h.2.elim (fun q => q rfl) (fun q => q rfl)), if_neg hw]
theorem Infr.chk {L x : ByteArray} {f : Fr} {out : List Int} (h : Infr L x f out) (hL : L.size ≤ 3000) : f.chk = 0 := by
  rcases h with ⟨he, rfl, rfl⟩ | ⟨he, rfl, rfl⟩
  · have := enF_few he
    rw [bl_len] at this
    unfold Fr.chk
    simp only
    have z : (⟨#[]⟩ : ByteArray).size = 0 := rfl
    rw [if_neg (by omega), if_neg (by omega), if_neg (by omega), if_neg (by rw [z]; rintro (h | h); exact h.2 ⟨by trivial, by trivial, by trivial⟩; exact h.1 (by trivial)), he]
    rfl
  · exact got_chk hL
/-- A front that has chosen has chosen as the whole text tells. -/
theorem Infr.chosen {L x : ByteArray} {f : Fr} {out : List Int} (h : Infr L x f out) (p : ByteArray) : f.why = 0 ∨ (f.why = (chI L (bl (x ++ p))).2.1 ∧ f.enc = (chI L (bl (x ++ p))).1) := by
  rcases h with ⟨he, rfl, rfl⟩ | ⟨he, rfl, rfl⟩
  · exact .inl rfl
  · rw [bl_app, chI_more he]; exact .inr ⟨rfl, rfl⟩
theorem nxt_wait {L W p : ByteArray} (hE : enF L (bl W ++ bl p) = false) : (⟨L, 0, 0, W, 0, ⟨#[]⟩, M.st0⟩ : Fr).nxt p false = ⟨L, 0, 0, W ++ p, 0, ⟨#[]⟩, M.st0⟩ := by
  unfold Fr.nxt
  rw [if_neg (by simp), if_pos rfl, if_neg (by simp [hE])]
theorem outs_wait {L W p : ByteArray} (hE : enF L (bl W ++ bl p) = false) : (⟨L, 0, 0, W, 0, ⟨#[]⟩, M.st0⟩ : Fr).outs p false = [] := by
  unfold Fr.outs
  rw [if_pos rfl, if_neg (by simp), if_neg (by simp [hE])]
theorem nxt_on {f : Fr} (h : f.why ≠ 0) {p r' : ByteArray} {t' : M.St} (h1 : bl r' = (M.RE f.e f.t (bl f.r ++ bl p)).2.2) (h2 : t' = (M.RE f.e f.t (bl f.r ++ bl p)).2.1) : f.nxt p false = ⟨f.L, f.enc, f.why, f.W, f.e, r', t'⟩ := by
  unfold Fr.nxt
  rw [if_neg (by simp), if_neg h, ← h1, ← h2, str_bl]
theorem outs_on {f : Fr} (h : f.why ≠ 0) (p : ByteArray) : f.outs p false = (M.RE f.e f.t (bl f.r ++ bl p)).1 := by
  unfold Fr.outs; rw [if_neg h, if_neg (by simp)]
theorem outs_end {f : Fr} (h : f.why ≠ 0) (p : ByteArray) : f.outs p true = (M.TE f.e f.t (bl f.r ++ bl p)).1 := by
  unfold Fr.outs; rw [if_neg h, if_pos rfl]
theorem nxt_got {L W p q r' : ByteArray} {t' : M.St} {n y m : Int} (hE : enF L (bl W ++ bl p) = true) (hc : chI L (bl W ++ bl p) = (n, y, m)) (hq : bl q = (bl W ++ bl p).drop m.toNat) (h1 : bl r' = (M.RE n M.st0 (bl ⟨#[]⟩ ++ bl q)).2.2) (h2 : t' = (M.RE n M.st0 (bl ⟨#[]⟩ ++ bl q)).2.1) :
    (⟨L, 0, 0, W, 0, ⟨#[]⟩, M.st0⟩ : Fr).nxt p false = ⟨L, n, y, ⟨#[]⟩, n, r', t'⟩ := by
  rw [show bl ⟨#[]⟩ = [] from rfl, List.nil_append, hq] at h1 h2
  unfold Fr.nxt
  rw [if_neg (by simp), if_pos rfl, if_pos hE]
  unfold Fr.got
  rw [hc]
  dsimp only
  rw [← h1, ← h2, str_bl]
theorem outs_got {L W p q : ByteArray} {n y m : Int} (hE : enF L (bl W ++ bl p) = true) (hc : chI L (bl W ++ bl p) = (n, y, m)) (hq : bl q = (bl W ++ bl p).drop m.toNat) :
    (⟨L, 0, 0, W, 0, ⟨#[]⟩, M.st0⟩ : Fr).outs p false = (M.RE n M.st0 (bl ⟨#[]⟩ ++ bl q)).1 := by
  rw [show bl ⟨#[]⟩ = [] from rfl, List.nil_append, hq]
  unfold Fr.outs
  rw [if_pos rfl, if_neg (by simp), if_pos hE]
  unfold gotO
  rw [hc]
theorem outs_whole {L W p q : ByteArray} {n y m : Int} (hc : chI L (bl W ++ bl p) = (n, y, m)) (hq : bl q = (bl W ++ bl p).drop m.toNat) :
    (⟨L, 0, 0, W, 0, ⟨#[]⟩, M.st0⟩ : Fr).outs p true = (M.TE n M.st0 (bl ⟨#[]⟩ ++ bl q)).1 := by
  rw [show bl ⟨#[]⟩ = [] from rfl, List.nil_append, hq]
  unfold Fr.outs
  rw [if_pos rfl, if_pos rfl]
  unfold whI M.decE
  rw [hc]
end Go.Proofs.YtaiinjfnkmidbaaGreatDoor

namespace Go.Proofs.YtaiinjfnkmidbaaGreatDoor
open Go.RowKit
set_option linter.unusedVariables false

namespace M
/-- The one byte that can be a code point's, by signs. -/
def bo (g n : Int) : Int := if g = 2 then n - 65344 else if g = 1 ∧ n = 165 then 92 else if g = 1 ∧ n = 8254 then 126 else n
end M

end Go.Proofs.YtaiinjfnkmidbaaGreatDoor

namespace Go.Proofs.YtaiinjfnkmidbaaGreatDoor
open Go.RowKit
set_option linter.unusedVariables false

/-- What choose answers. -/
def chosen (now n : Int) : Value := .tuple #[.int .i64 (if M.anyK n then M.want now n else 0), .int .u8 (if M.anyK n then M.kby (M.want now n) n else 0), .bool (M.anyK n)]
end Go.Proofs.YtaiinjfnkmidbaaGreatDoor

namespace Go.Proofs.YtaiinjfnkmidbaaGreatDoor
open Go.RowKit
set_option linter.unusedVariables false

end Go.Proofs.YtaiinjfnkmidbaaGreatDoor

namespace Go.Proofs.YtaiinjfnkmidbaaGreatDoor
open Go.RowKit
set_option linter.unusedVariables false

set_option maxHeartbeats 400000 in
set_option maxRecDepth 100000 in
theorem tooLong_no (s : ByteArray) (w : World) (hs : s.size ≤ 3000) : Calls Tryz.prog 15 #[.string s] w fun e w' => e = .returned (.int .i64 0) ∧ w' = w := by
  go_enter Tryz.func15, Tryz.ntmps15
  go_wp2
  go_ret
  exact ⟨rfl, rfl⟩
set_option maxHeartbeats 400000 in
set_option maxRecDepth 100000 in
theorem tooLong_yes (s : ByteArray) (w : World) (hs : 3000 < s.size) (hm : s.size ≤ maxLen) : Calls Tryz.prog 15 #[.string s] w fun e w' => e = .returned (.int .i64 2) ∧ w' = w := by
  unfold maxLen at hm
  go_enter Tryz.func15, Tryz.ntmps15
  go_wp2
  go_ret
  exact ⟨rfl, rfl⟩
set_option maxHeartbeats 400000 in
set_option maxRecDepth 100000 in
theorem intsAre_ok {v u : Value} {xs : List Int} (w : World) (hx : Ints w v xs) (hu : Ints w u xs) :
    Calls Tryz.prog 21 #[v, .int .i64 0, .int .i64 0, u] w fun e w' => e = .returned (.bool true) ∧ Below w.heap.size w w' := by
  obtain ⟨ao, cap, hv, -⟩ := id hx
  obtain ⟨ao', cap', hv', -⟩ := id hu
  subst hv hv'
  have HX := hide hx
  have HU := hide hu
  clear hx hu
  go_enter Tryz.func21, Tryz.ntmps21
  go_wp2_with fail
  refine (same_any _ (unhide HX) (unhide HU)).mono ?_
  rintro e w1 ⟨rfl, hb⟩
  rw [show (xs == xs) = true from by simp]
  go_wp2_with fail
  go_ret
  exact ⟨rfl, hb⟩
end Go.Proofs.YtaiinjfnkmidbaaGreatDoor

namespace Go.Proofs.YtaiinjfnkmidbaaGreatDoor
open Go.RowKit
set_option linter.unusedVariables false

set_option maxHeartbeats 800000 in
set_option maxRecDepth 100000 in
theorem kanaSign_any (g c : Int) (hg : M.Sg g) (h0 : 0 ≤ c) (h1 : c < 256) (w : World) :
    Calls Tryz.prog 174 #[.int .i64 g, .int .i64 c] w fun e w' => e = .returned (.int .i64 (M.ksn g c)) ∧ w' = w := by
  rcases hg with rfl | rfl | rfl
  · go_enter Tryz.func174, Tryz.ntmps174
    go_wp2
    all_goals (go_ret; refine ⟨ret_int ?_, rfl⟩; try simp only [beq_iff_eq, beq_eq_false_iff_ne] at *)
    all_goals (simp only [M.ksn]; (repeat' split) <;> first | omega | simp_all)
  · go_enter Tryz.func174, Tryz.ntmps174
    go_wp2
    all_goals (go_ret; refine ⟨ret_int ?_, rfl⟩; try simp only [beq_iff_eq, beq_eq_false_iff_ne] at *)
    all_goals (simp only [M.ksn]; (repeat' split) <;> first | omega | simp_all)
  · by_cases hin : 33 ≤ c ∧ c ≤ 95
    · have hd : (decide (33 ≤ c) && decide (c ≤ 95)) = true := by simp; omega
      go_enter Tryz.func174, Tryz.ntmps174
      go_wp2_with (go_at_call 51; refine (between_any _ _ _ _).mono ?_; rintro e w1 ⟨rfl, hw⟩; replace hw := hw.symm; subst hw; rw [hd])
      go_ret
      refine ⟨ret_int ?_, rfl⟩
      simp only [M.ksn]; rw [if_pos trivial, if_pos hin]
    · have hd : (decide (33 ≤ c) && decide (c ≤ 95)) = false := by simp; omega
      go_enter Tryz.func174, Tryz.ntmps174
      go_wp2_with (go_at_call 51; refine (between_any _ _ _ _).mono ?_; rintro e w1 ⟨rfl, hw⟩; replace hw := hw.symm; subst hw; rw [hd])
      go_ret
      refine ⟨ret_int ?_, rfl⟩
      simp only [M.ksn]; rw [if_pos trivial, if_neg hin]

end Go.Proofs.YtaiinjfnkmidbaaGreatDoor

namespace Go.Proofs.YtaiinjfnkmidbaaGreatDoor
open Go.RowKit
set_option linter.unusedVariables false

/-- How signs are shifted, in memory. -/
structure Pc (B : Nat) (g : Int) (fr : Bool) (w : World) : Prop where
  c0 : w.cell? ⟨B, 0, none⟩ = some (.int .i64 g)
  c1 : w.cell? ⟨B, 1, none⟩ = some (.bool fr)
  f0 : w.frozen? ⟨B, 0, none⟩ = false
  f1 : w.frozen? ⟨B, 1, none⟩ = false
theorem Pc.lt {B : Nat} {g : Int} {fr : Bool} {w : World} (h : Pc B g fr w) : B < w.heap.size := World.block_lt_of_cell? w _ h.c0
theorem Pc.below {B D : Nat} {g : Int} {fr : Bool} {w w2 : World} (h : Pc B g fr w) (hb : Below D w w2) (hB : B < D) : Pc B g fr w2 where
  c0 := (hb.cell (p := ⟨B, 0, none⟩) hB).trans h.c0
  c1 := (hb.cell (p := ⟨B, 1, none⟩) hB).trans h.c1
  f0 := (hb.frozen (p := ⟨B, 0, none⟩) hB).trans h.f0
  f1 := (hb.frozen (p := ⟨B, 1, none⟩) hB).trans h.f1
theorem Pc.set0 {B : Nat} {g : Int} {fr : Bool} {w : World} (h : Pc B g fr w) (x : Int) : Pc B x fr (w.setCell ⟨B, 0, none⟩ (.int .i64 x)) where
  c0 := World.cell?_setCell_same _ _ _ h.c0
  c1 := (World.cell?_setCell_other _ _ _ _ (by simp)).trans h.c1
  f0 := by rw [World.frozen?_setCell]; exact h.f0
  f1 := by rw [World.frozen?_setCell]; exact h.f1
theorem Pc.set1 {B : Nat} {g : Int} {fr : Bool} {w : World} (h : Pc B g fr w) (x : Bool) : Pc B g x (w.setCell ⟨B, 1, none⟩ (.bool x)) where
  c0 := (World.cell?_setCell_other _ _ _ _ (by simp)).trans h.c0
  c1 := World.cell?_setCell_same _ _ _ h.c1
  f0 := by rw [World.frozen?_setCell]; exact h.f0
  f1 := by rw [World.frozen?_setCell]; exact h.f1
theorem Pc.far {B : Nat} {g : Int} {fr : Bool} {w : World} (h : Pc B g fr w) (p : Addr) (u : Value) (hp : p.block ≠ B) : Pc B g fr (w.setCell p u) where
  c0 := (World.cell?_setCell_other _ _ _ _ (by intro e; rw [e] at hp; exact hp rfl)).trans h.c0
  c1 := (World.cell?_setCell_other _ _ _ _ (by intro e; rw [e] at hp; exact hp rfl)).trans h.c1
  f0 := by rw [World.frozen?_setCell]; exact h.f0
  f1 := by rw [World.frozen?_setCell]; exact h.f1
/-- What a round of DecodeKana's loop knows. -/
def InK (g0 : Int) (fr0 : Bool) (s : ByteArray) (w wr : World) (k : Nat) (v : Value) : Prop :=
  ∃ xs g fr, wr.ownsRow (w.heap.size + 2) 3 1 v xs.length (xs.map (Value.int .i64)) ∧ Pc w.heap.size g fr wr ∧ Pc (w.heap.size + 1) 0 false wr ∧ Below w.heap.size w wr ∧ M.Sg g ∧ xs.length ≤ k ∧
    M.Tot M.gk (g0, fr0) (bl s) = (xs ++ (M.Tot M.gk (g, fr) ((bl s).drop k)).1, (M.Tot M.gk (g, fr) ((bl s).drop k)).2)
/-- The round's end. -/
theorem InK.step {g0 : Int} {fr0 : Bool} {s : ByteArray} {w w2 : World} {k z : Nat} {xs o : List Int} {g g' : Int} {fr fr' : Bool} {v2 : Value} (hk : k < s.size)
    (hE : M.Tot M.gk (g0, fr0) (bl s) = (xs ++ (M.Tot M.gk (g, fr) ((bl s).drop k)).1, (M.Tot M.gk (g, fr) ((bl s).drop k)).2)) (hx : xs.length ≤ k) (hg : M.Sg g) (hq : M.gk (g, fr) ((bl s).drop k) = (o, z, (g', fr')))
    (ho : w2.ownsRow (w.heap.size + 2) 3 1 v2 (xs ++ o).length ((xs ++ o).map (Value.int .i64))) (hp : Pc w.heap.size g' fr' w2) (hr : Pc (w.heap.size + 1) 0 false w2) (hb : Below w.heap.size w w2) : InK g0 fr0 s w w2 (k + z) v2 := by
  have hne : (bl s).drop k ≠ [] := fun e => by have := congrArg List.length e; simp [bl_len] at this; omega
  have hst := M.Tot_step M.gk_size hne hq
  have hfew := gk_few (g, fr) ((bl s).drop k)
  have hsg := gk_sg (fr := fr) ((bl s).drop k) hg
  rw [hq] at hfew hsg
  refine ⟨xs ++ o, g', fr', ho, hp, hr, hb, hsg, by simp at hfew; simp; omega, ?_⟩
  rw [hE, hst, List.drop_drop]
  simp [List.append_assoc]
theorem gk_none {g : Int} {fr : Bool} {l : List Int} {c : Int} (h : M.kesc l = none) (hc : l.headD 0 = c) : M.gk (g, fr) l = ([M.kpt g c], 1, (g, false)) := by unfold M.gk; rw [h, hc]
theorem gk_some {g g' : Int} {fr : Bool} {l : List Int} (h : M.kesc l = some g') : M.gk (g, fr) l = (M.bads fr, 3, (g', true)) := by unfold M.gk; rw [h]
theorem kesc_at (u : ByteArray) (h3 : 3 ≤ u.size) (h0 : (bl u).headD 0 = 27) {b d : Int} (hb : ((u[1]'(by omega)).toNat : Int) = b) (hd : ((u[2]'(by omega)).toNat : Int) = d) : M.kesc (bl u) = if b = 40 then (if fin3 d = -1 then none else some (fin3 d)) else none := by
  have e0 : ((u[0]'(by omega)).toNat : Int) = 27 := by rw [bl_0 u (by omega)] at h0; exact h0
  rw [kesc_three u h3, hd]
  by_cases h : b = 40
  · rw [if_pos h, if_pos (by omega)]
  · rw [if_neg h, if_neg (by omega)]
theorem kpt_27 (g : Int) : M.kpt g 27 = 65533 := by unfold M.kpt; rw [if_pos rfl]

set_option maxHeartbeats 2000000 in
set_option maxRecDepth 100000 in
theorem decodeKana_last (g0 : Int) (fr0 : Bool) (s : ByteArray) (w : World) (hg0 : M.Sg g0) (hs : s.size ≤ 3300) :
    Calls Tryz.prog 120 #[.agg #[.int .i64 g0, .bool fr0], .string s, .bool true] w fun e w' => ∃ v, e = .returned (.tuple #[v, .agg #[.int .i64 (M.Tot M.gk (g0, fr0) (bl s)).2.1, .bool (M.Tot M.gk (g0, fr0) (bl s)).2.2], .string ⟨#[]⟩]) ∧ w'.ownsRow w.heap.size 3 1 v (M.Tot M.gk (g0, fr0) (bl s)).1.length ((M.Tot M.gk (g0, fr0) (bl s)).1.map (Value.int .i64)) ∧ Below w.heap.size w w' := by
  go_enter Tryz.func120, Tryz.ntmps120
  go_wp2_with fail
  generalize hW : (w.alloc (Obj.cells #[Value.int IntKind.i64 g0, Value.bool fr0] 144)).alloc (Obj.cells #[Value.int IntKind.i64 0, Value.bool false] 144) = W
  have HI : Hid (InK g0 fr0 s w W 0 (.slice none 0 0)) := hide ⟨[], g0, fr0, World.ownsRow_nil _ _ _ _, by subst hW; constructor <;> simp [go_sem], by subst hW; constructor <;> simp [go_sem], by subst hW; exact bstep (balloc _ _) (balloc _ _), hg0, Nat.le_refl _, rfl⟩
  clear hW
  go_loopw [9, 10] (fun v i wr => ∃ k : Nat, k ≤ s.size ∧ i = .int .i64 k ∧ InK g0 fr0 s w wr k v) (fun _ i _ => s.size - (intOf i).toNat)
  case atStart => exact ⟨0, by omega, rfl, unhide HI⟩
  case round =>
    obtain ⟨k, hk, rfl, xs, g, fr, ho, hP, hR, hB, hg, hxk, hE⟩ := hrel
    clear HI
    have HO := hide ho
    have HP := hide hP
    have HR := hide hR
    have HB := hide hB
    have HE := hide hE
    have HX := hide hxk
    have hxs : xs.length ≤ 3300 := by omega
    obtain ⟨av, cv, hsv⟩ := owns_shape ho
    subst hsv
    have hl1 := hR.lt
    have hl0 := hP.lt
    obtain ⟨p0, p1, q0, q1⟩ := hP
    clear ho hB hE hxk
    by_cases hks : k < s.size
    · clear hR
      obtain ⟨c, hc⟩ : ∃ c : Int, (s[k].toNat : Int) = c := ⟨_, rfl⟩
      have hc0 : 0 ≤ c := by omega
      have hc1 : c < 256 := by have := s[k].toNat_lt; omega
      have hk0 : (0 : Int) ≤ (k : Int) := by omega
      have hk1 : (k : Int) < (s.size : Int) := by omega
      have hhd : ((bl s).drop k).headD 0 = c := by rw [bl_drop s k hks, ← hc]; rfl
      by_cases h27 : c = 27
      · obtain ⟨u, hu⟩ : ∃ u, s.extract k s.size = u := ⟨_, rfl⟩
        have hbu : bl u = (bl s).drop k := by rw [← hu, bl_extract]
        have husz : u.size = s.size - k := by rw [← hu]; simp
        rw [h27] at hhd
        have HST : Hid (∀ o z g' fr' w2 v2, M.gk (g, fr) ((bl s).drop k) = (o, z, (g', fr')) → w2.ownsRow (w.heap.size + 2) 3 1 v2 (xs ++ o).length ((xs ++ o).map (Value.int .i64)) → Pc w.heap.size g' fr' w2 → Pc (w.heap.size + 1) 0 false w2 → Below w.heap.size w w2 → InK g0 fr0 s w w2 (k + z) v2) := hide (fun o z g' fr' w2 v2 a1 a2 a3 a4 a5 => InK.step hks (unhide HE) (unhide HX) hg a1 a2 a3 a4 a5)
        have e27 : (c != 27) = false := by rw [h27]; rfl
        have hz2 : w.heap.size + 2 ≤ wr.heap.size := by omega
        have hu0 : (bl u).headD 0 = 27 := by rw [hbu]; exact hhd
        by_cases h3 : u.size < 3
        · have hkn := kesc_short u h3
          have hlu : (u.size : Int) < 3 := by omega
          have HG : Hid (M.gk (g, fr) ((bl s).drop k) = ([65533], 1, (g, false))) := hide (by have := gk_none (g := g) (fr := fr) (hbu ▸ hkn) hhd; rwa [kpt_27] at this)
          clear hkn hhd hbu
          go_wp2_with (at_builtin; refine append_ints rfl (.tmp 68) (.tmp 69) rfl (w.heap.size + 2) _ xs rfl (owns_a (unhide HO) _) _ [65533] rfl (one_int _ _) (by simp; omega) (by simp; omega) ?_)
          intro v2 w2 ho2 hb2
          obtain ⟨ao2, cap2, hsh2⟩ := owns_shape ho2
          subst hsh2
          have HO2 := hide ho2
          have hb3 := ((Below.refl (w.heap.size + 2) wr).alloc hz2 (.cells #[.int .i64 65533] 3)).trans hb2
          have HP2 := hide ((unhide HP).below hb3 (by omega))
          have HR2 := hide ((unhide HR).below hb3 (by omega))
          have HB2 := hide ((unhide HB).trans (hb3.mono (by omega)))
          obtain ⟨a0, a1, b0, b1⟩ := unhide HP2
          have hl2 := (unhide HP2).lt
          clear ho2 hb2 hb3
          go_wp2_with fail
          go_roundw
          case rel => exact ⟨k + 1, by omega, by go_num, unhide HST _ _ _ _ _ _ (unhide HG) (by simpa using owns_set (unhide HO2) ⟨w.heap.size, 1, none⟩ (by simp) _) ((unhide HP2).set1 false) ((unhide HR2).far _ _ (by simp)) (bset (unhide HB2) ⟨w.heap.size, 1, none⟩ _ (Nat.le_refl _))⟩
          case measure => simp [intOf]; omega
        · have h3' : 3 ≤ u.size := by omega
          have hlu : (3 : Int) ≤ (u.size : Int) := by omega
          have husz' : k + 3 ≤ s.size := by omega
          obtain ⟨b, hb⟩ : ∃ b : Int, ((u[1]'(by omega)).toNat : Int) = b := ⟨_, rfl⟩
          obtain ⟨d, hd⟩ : ∃ d : Int, ((u[2]'(by omega)).toNat : Int) = d := ⟨_, rfl⟩
          have hka := kesc_at u h3' hu0 hb hd
          have hb0 : 0 ≤ b := by omega
          have hb1 : b < 256 := by have := (u[1]'(by omega)).toNat_lt; omega
          have hd0 : 0 ≤ d := by omega
          have hd1 : d < 256 := by have := (u[2]'(by omega)).toNat_lt; omega
          by_cases hb40 : b = 40
          · rw [if_pos hb40] at hka
            have eb : (b == 40) = true := by simpa using hb40
            obtain hd66 | hd74 | hd73 | hdn : d = 66 ∨ d = 74 ∨ d = 73 ∨ (d ≠ 66 ∧ d ≠ 74 ∧ d ≠ 73) := by omega
            · have hkn : M.kesc (bl u) = some 0 := by rw [hka, hd66]; rfl
              clear hka
              have HG : Hid (M.gk (g, fr) ((bl s).drop k) = (M.bads fr, 3, (0, true))) := hide (gk_some (g := g) (fr := fr) (hbu ▸ hkn))
              clear hkn hhd hbu
              cases fr
              · go_wp2_with fail
                go_roundw
                case rel => exact ⟨k + 3, by omega, by go_num, unhide HST _ _ _ _ _ _ (unhide HG) (by simpa [M.bads] using owns_set (owns_set (unhide HO) ⟨w.heap.size, 0, none⟩ (by simp) _) ⟨w.heap.size, 1, none⟩ (by simp) _) (((unhide HP).set0 0).set1 true) (((unhide HR).far _ _ (by simp)).far _ _ (by simp)) (bset (bset (unhide HB) ⟨w.heap.size, 0, none⟩ _ (Nat.le_refl _)) ⟨w.heap.size, 1, none⟩ _ (Nat.le_refl _))⟩
                case measure => simp [intOf]; omega
              · go_wp2_with (at_builtin; refine append_ints rfl (.tmp 76) (.tmp 77) rfl (w.heap.size + 2) _ xs rfl (owns_a (unhide HO) _) _ [65533] rfl (one_int _ _) (by simp; omega) (by simp; omega) ?_)
                intro v2 w2 ho2 hb2
                obtain ⟨ao2, cap2, hsh2⟩ := owns_shape ho2
                subst hsh2
                have HO2 := hide ho2
                have hb3 := ((Below.refl (w.heap.size + 2) wr).alloc hz2 (.cells #[.int .i64 65533] 3)).trans hb2
                have HP2 := hide ((unhide HP).below hb3 (by omega))
                have HR2 := hide ((unhide HR).below hb3 (by omega))
                have HB2 := hide ((unhide HB).trans (hb3.mono (by omega)))
                obtain ⟨a0, a1, b0, b1⟩ := unhide HP2
                have hl2 := (unhide HP2).lt
                clear ho2 hb2 hb3
                go_wp2_with fail
                go_roundw
                case rel => exact ⟨k + 3, by omega, by go_num, unhide HST _ _ _ _ _ _ (unhide HG) (by simpa [M.bads] using owns_set (owns_set (unhide HO2) ⟨w.heap.size, 0, none⟩ (by simp) _) ⟨w.heap.size, 1, none⟩ (by simp) _) (((unhide HP2).set0 0).set1 true) (((unhide HR2).far _ _ (by simp)).far _ _ (by simp)) (bset (bset (unhide HB2) ⟨w.heap.size, 0, none⟩ _ (Nat.le_refl _)) ⟨w.heap.size, 1, none⟩ _ (Nat.le_refl _))⟩
                case measure => simp [intOf]; omega
            · have hkn : M.kesc (bl u) = some 1 := by rw [hka, hd74]; rfl
              clear hka
              have HG : Hid (M.gk (g, fr) ((bl s).drop k) = (M.bads fr, 3, (1, true))) := hide (gk_some (g := g) (fr := fr) (hbu ▸ hkn))
              clear hkn hhd hbu
              cases fr
              · go_wp2_with fail
                go_roundw
                case rel => exact ⟨k + 3, by omega, by go_num, unhide HST _ _ _ _ _ _ (unhide HG) (by simpa [M.bads] using owns_set (owns_set (unhide HO) ⟨w.heap.size, 0, none⟩ (by simp) _) ⟨w.heap.size, 1, none⟩ (by simp) _) (((unhide HP).set0 1).set1 true) (((unhide HR).far _ _ (by simp)).far _ _ (by simp)) (bset (bset (unhide HB) ⟨w.heap.size, 0, none⟩ _ (Nat.le_refl _)) ⟨w.heap.size, 1, none⟩ _ (Nat.le_refl _))⟩
                case measure => simp [intOf]; omega
              · go_wp2_with (at_builtin; refine append_ints rfl (.tmp 76) (.tmp 77) rfl (w.heap.size + 2) _ xs rfl (owns_a (unhide HO) _) _ [65533] rfl (one_int _ _) (by simp; omega) (by simp; omega) ?_)
                intro v2 w2 ho2 hb2
                obtain ⟨ao2, cap2, hsh2⟩ := owns_shape ho2
                subst hsh2
                have HO2 := hide ho2
                have hb3 := ((Below.refl (w.heap.size + 2) wr).alloc hz2 (.cells #[.int .i64 65533] 3)).trans hb2
                have HP2 := hide ((unhide HP).below hb3 (by omega))
                have HR2 := hide ((unhide HR).below hb3 (by omega))
                have HB2 := hide ((unhide HB).trans (hb3.mono (by omega)))
                obtain ⟨a0, a1, b0, b1⟩ := unhide HP2
                have hl2 := (unhide HP2).lt
                clear ho2 hb2 hb3
                go_wp2_with fail
                go_roundw
                case rel => exact ⟨k + 3, by omega, by go_num, unhide HST _ _ _ _ _ _ (unhide HG) (by simpa [M.bads] using owns_set (owns_set (unhide HO2) ⟨w.heap.size, 0, none⟩ (by simp) _) ⟨w.heap.size, 1, none⟩ (by simp) _) (((unhide HP2).set0 1).set1 true) (((unhide HR2).far _ _ (by simp)).far _ _ (by simp)) (bset (bset (unhide HB2) ⟨w.heap.size, 0, none⟩ _ (Nat.le_refl _)) ⟨w.heap.size, 1, none⟩ _ (Nat.le_refl _))⟩
                case measure => simp [intOf]; omega
            · have hkn : M.kesc (bl u) = some 2 := by rw [hka, hd73]; rfl
              clear hka
              have HG : Hid (M.gk (g, fr) ((bl s).drop k) = (M.bads fr, 3, (2, true))) := hide (gk_some (g := g) (fr := fr) (hbu ▸ hkn))
              clear hkn hhd hbu
              cases fr
              · go_wp2_with fail
                go_roundw
                case rel => exact ⟨k + 3, by omega, by go_num, unhide HST _ _ _ _ _ _ (unhide HG) (by simpa [M.bads] using owns_set (owns_set (unhide HO) ⟨w.heap.size, 0, none⟩ (by simp) _) ⟨w.heap.size, 1, none⟩ (by simp) _) (((unhide HP).set0 2).set1 true) (((unhide HR).far _ _ (by simp)).far _ _ (by simp)) (bset (bset (unhide HB) ⟨w.heap.size, 0, none⟩ _ (Nat.le_refl _)) ⟨w.heap.size, 1, none⟩ _ (Nat.le_refl _))⟩
                case measure => simp [intOf]; omega
              · go_wp2_with (at_builtin; refine append_ints rfl (.tmp 76) (.tmp 77) rfl (w.heap.size + 2) _ xs rfl (owns_a (unhide HO) _) _ [65533] rfl (one_int _ _) (by simp; omega) (by simp; omega) ?_)
                intro v2 w2 ho2 hb2
                obtain ⟨ao2, cap2, hsh2⟩ := owns_shape ho2
                subst hsh2
                have HO2 := hide ho2
                have hb3 := ((Below.refl (w.heap.size + 2) wr).alloc hz2 (.cells #[.int .i64 65533] 3)).trans hb2
                have HP2 := hide ((unhide HP).below hb3 (by omega))
                have HR2 := hide ((unhide HR).below hb3 (by omega))
                have HB2 := hide ((unhide HB).trans (hb3.mono (by omega)))
                obtain ⟨a0, a1, b0, b1⟩ := unhide HP2
                have hl2 := (unhide HP2).lt
                clear ho2 hb2 hb3
                go_wp2_with fail
                go_roundw
                case rel => exact ⟨k + 3, by omega, by go_num, unhide HST _ _ _ _ _ _ (unhide HG) (by simpa [M.bads] using owns_set (owns_set (unhide HO2) ⟨w.heap.size, 0, none⟩ (by simp) _) ⟨w.heap.size, 1, none⟩ (by simp) _) (((unhide HP2).set0 2).set1 true) (((unhide HR2).far _ _ (by simp)).far _ _ (by simp)) (bset (bset (unhide HB2) ⟨w.heap.size, 0, none⟩ _ (Nat.le_refl _)) ⟨w.heap.size, 1, none⟩ _ (Nat.le_refl _))⟩
                case measure => simp [intOf]; omega
            · have hf : fin3 d = -1 := by unfold fin3; rw [if_neg hdn.1, if_neg hdn.2.1, if_neg hdn.2.2]
              have hkn : M.kesc (bl u) = none := by rw [hka, hf]; rfl
              have ed1 : (d == 66) = false := by simpa using hdn.1
              have ed2 : (d == 74) = false := by simpa using hdn.2.1
              have ed3 : (d == 73) = false := by simpa using hdn.2.2
              clear hka hf hdn
              have HG : Hid (M.gk (g, fr) ((bl s).drop k) = ([65533], 1, (g, false))) := hide (by have := gk_none (g := g) (fr := fr) (hbu ▸ hkn) hhd; rwa [kpt_27] at this)
              clear hkn hhd hbu
              go_wp2_with (at_builtin; refine append_ints rfl (.tmp 68) (.tmp 69) rfl (w.heap.size + 2) _ xs rfl (owns_a (unhide HO) _) _ [65533] rfl (one_int _ _) (by simp; omega) (by simp; omega) ?_)
              intro v2 w2 ho2 hb2
              obtain ⟨ao2, cap2, hsh2⟩ := owns_shape ho2
              subst hsh2
              have HO2 := hide ho2
              have hb3 := ((Below.refl (w.heap.size + 2) wr).alloc hz2 (.cells #[.int .i64 65533] 3)).trans hb2
              have HP2 := hide ((unhide HP).below hb3 (by omega))
              have HR2 := hide ((unhide HR).below hb3 (by omega))
              have HB2 := hide ((unhide HB).trans (hb3.mono (by omega)))
              obtain ⟨a0, a1, b0, b1⟩ := unhide HP2
              have hl2 := (unhide HP2).lt
              clear ho2 hb2 hb3
              go_wp2_with fail
              go_roundw
              case rel => exact ⟨k + 1, by omega, by go_num, unhide HST _ _ _ _ _ _ (unhide HG) (by simpa using owns_set (unhide HO2) ⟨w.heap.size, 1, none⟩ (by simp) _) ((unhide HP2).set1 false) ((unhide HR2).far _ _ (by simp)) (bset (unhide HB2) ⟨w.heap.size, 1, none⟩ _ (Nat.le_refl _))⟩
              case measure => simp [intOf]; omega
          · rw [if_neg hb40] at hka
            have hkn := hka
            have eb : (b == 40) = false := by simpa using hb40
            clear hka
            have HG : Hid (M.gk (g, fr) ((bl s).drop k) = ([65533], 1, (g, false))) := hide (by have := gk_none (g := g) (fr := fr) (hbu ▸ hkn) hhd; rwa [kpt_27] at this)
            clear hkn hhd hbu
            go_wp2_with (at_builtin; refine append_ints rfl (.tmp 68) (.tmp 69) rfl (w.heap.size + 2) _ xs rfl (owns_a (unhide HO) _) _ [65533] rfl (one_int _ _) (by simp; omega) (by simp; omega) ?_)
            intro v2 w2 ho2 hb2
            obtain ⟨ao2, cap2, hsh2⟩ := owns_shape ho2
            subst hsh2
            have HO2 := hide ho2
            have hb3 := ((Below.refl (w.heap.size + 2) wr).alloc hz2 (.cells #[.int .i64 65533] 3)).trans hb2
            have HP2 := hide ((unhide HP).below hb3 (by omega))
            have HR2 := hide ((unhide HR).below hb3 (by omega))
            have HB2 := hide ((unhide HB).trans (hb3.mono (by omega)))
            obtain ⟨a0, a1, b0, b1⟩ := unhide HP2
            have hl2 := (unhide HP2).lt
            clear ho2 hb2 hb3
            go_wp2_with fail
            go_roundw
            case rel => exact ⟨k + 1, by omega, by go_num, unhide HST _ _ _ _ _ _ (unhide HG) (by simpa using owns_set (unhide HO2) ⟨w.heap.size, 1, none⟩ (by simp) _) ((unhide HP2).set1 false) ((unhide HR2).far _ _ (by simp)) (bset (unhide HB2) ⟨w.heap.size, 1, none⟩ _ (Nat.le_refl _))⟩
            case measure => simp [intOf]; omega
      · have hn : M.kesc ((bl s).drop k) = none := by
          rw [bl_drop s k hks, hc]
          match hd : (bl s).drop (k + 1) with
          | [] => rfl
          | [_] => rfl
          | a :: b :: t => simp [M.kesc, h27]
        have HG := hide (gk_none (g := g) (fr := fr) hn hhd)
        have hkp : M.kpt g c = M.ksn g c := by unfold M.kpt; rw [if_neg h27]
        rw [hkp] at HG
        have hsg := fun w => kanaSign_any g c hg hc0 hc1 w
        obtain ⟨p, hp⟩ : ∃ p, M.ksn g c = p := ⟨_, rfl⟩
        rw [hp] at hsg HG
        have e27 : (c != 27) = true := by simpa using h27
        have hwc : IntKind.i64.wrap c = c := by rw [IntKind.wrap_i64]; omega
        have hz2 : w.heap.size + 2 ≤ wr.heap.size := by omega
        clear hn hkp hp hhd
        go_wp2_with fail
        go_region_law ((first
          | (refine step_append_ints (by rfl) _ _ (by rfl) (w.heap.size + 2) _ xs (by rfl) (((unhide HO).alloc _).drew) _ [p] (by rfl) ((one_int _ _).drew) (by simp; omega) (by simp; omega) ?_; intro ao2 cap2 w2 ho2 hb2; have HO2 := hide ho2; have hb3 := (below_drewN ((Below.refl (w.heap.size + 2) wr).alloc hz2 (.cells #[.int .i64 p] 3)) 1).trans hb2; have HP2 := hide ((unhide HP).below hb3 (by omega)); have HR2 := hide ((unhide HR).below hb3 (by omega)); have HB2 := hide ((unhide HB).trans (hb3.mono (by omega))); obtain ⟨a0, a1, b0, b1⟩ := unhide HP2; have hl2 := (unhide HP2).lt; clear ho2 hb2 hb3)
          | (go_simp; go_at_call 174; refine (hsg _).mono ?_; rintro e w1 ⟨rfl, hw⟩; replace hw := hw.symm; subst hw)))
        all_goals
          go_wp2_with fail
          go_roundw
          case rel => exact ⟨k + 1, by omega, by go_num, InK.step hks (unhide HE) (unhide HX) hg (unhide HG) (by simpa using owns_set (unhide HO2) ⟨w.heap.size, 1, none⟩ (by simp) _) ((unhide HP2).set1 false) ((unhide HR2).far _ _ (by simp)) (bset (unhide HB2) ⟨w.heap.size, 1, none⟩ _ (Nat.le_refl _))⟩
          case measure => simp [intOf]; omega
    · have ek : (bl s).drop k = [] := List.drop_of_length_le (by rw [bl_len]; omega)
      rw [ek, M.Tot_nil, List.append_nil] at HE
      obtain ⟨b0, b1, g0', g1'⟩ := hR
      clear ek
      go_wp2_with fail
      go_region
      all_goals
        go_wp2_with fail
        refine bodyPost_ret (v := .tuple #[.slice av xs.length cv, .agg #[.int .i64 g, .bool fr], .string ⟨#[]⟩]) (by simp [results, Tryz.results120, go_sem, b0, b1]) rfl ?_
        refine ⟨.slice av xs.length cv, ?_, ?_, ?_⟩
        · rw [unhide HE]
        · rw [unhide HE]
          exact owns_below (owns_mono (owns_set (owns_set (unhide HO) ⟨w.heap.size + 1, 0, none⟩ (by simp) _) ⟨w.heap.size + 1, 1, none⟩ (by simp) _) (by omega)) (below_drewN (Below.refl _ _) 1)
        · exact below_drewN (bset (bset (unhide HB) ⟨w.heap.size + 1, 0, none⟩ _ (by simp)) ⟨w.heap.size + 1, 1, none⟩ _ (by simp)) 1
end Go.Proofs.YtaiinjfnkmidbaaGreatDoor

namespace Go.Proofs.YtaiinjfnkmidbaaGreatDoor
open Go.RowKit
set_option linter.unusedVariables false

theorem b_drew {B : Nat} {a w : World} (h : Below B a w) : Below B a w.drew := below_drewN h 1
theorem o_drew {w : World} {base e size n : Nat} {v : Value} {xs : List Value} (h : w.ownsRow base e size v n xs) : w.drew.ownsRow base e size v n xs := owns_below h (below_drewN (Below.refl _ _) 1)

theorem Sc.far {B : Nat} {e : Int} {r : ByteArray} {t : M.St} {w : World} (h : Sc B e r t w) (p : Addr) (u : Value) (hp : p.block ≠ B) : Sc B e r t (w.setCell p u) where
  c0 := (World.cell?_setCell_other _ _ _ _ (by intro e; rw [e] at hp; exact hp rfl)).trans h.c0
  c1 := (World.cell?_setCell_other _ _ _ _ (by intro e; rw [e] at hp; exact hp rfl)).trans h.c1
  c2 := (World.cell?_setCell_other _ _ _ _ (by intro e; rw [e] at hp; exact hp rfl)).trans h.c2
  c3 := (World.cell?_setCell_other _ _ _ _ (by intro e; rw [e] at hp; exact hp rfl)).trans h.c3
  c4 := (World.cell?_setCell_other _ _ _ _ (by intro e; rw [e] at hp; exact hp rfl)).trans h.c4
  f0 := by rw [World.frozen?_setCell]; exact h.f0
  f1 := by rw [World.frozen?_setCell]; exact h.f1
  f2 := by rw [World.frozen?_setCell]; exact h.f2
  f3 := by rw [World.frozen?_setCell]; exact h.f3
  f4 := by rw [World.frozen?_setCell]; exact h.f4
theorem Rc.far {B : Nat} {w : World} (h : Rc B w) (p : Addr) (u : Value) (hp : p.block ≠ B) : Rc B (w.setCell p u) where
  b0 := (World.cell?_setCell_other _ _ _ _ (by intro e; rw [e] at hp; exact hp rfl)).trans h.b0
  b1 := (World.cell?_setCell_other _ _ _ _ (by intro e; rw [e] at hp; exact hp rfl)).trans h.b1
  b2 := (World.cell?_setCell_other _ _ _ _ (by intro e; rw [e] at hp; exact hp rfl)).trans h.b2
  b3 := (World.cell?_setCell_other _ _ _ _ (by intro e; rw [e] at hp; exact hp rfl)).trans h.b3
  b4 := (World.cell?_setCell_other _ _ _ _ (by intro e; rw [e] at hp; exact hp rfl)).trans h.b4
  g0 := by rw [World.frozen?_setCell]; exact h.g0
  g1 := by rw [World.frozen?_setCell]; exact h.g1
  g2 := by rw [World.frozen?_setCell]; exact h.g2
  g3 := by rw [World.frozen?_setCell]; exact h.g3
  g4 := by rw [World.frozen?_setCell]; exact h.g4
theorem Sc.set1 {B : Nat} {e : Int} {r : ByteArray} {t : M.St} {w : World} (h : Sc B e r t w) (x : ByteArray) : Sc B e x t (w.setCell ⟨B, 1, none⟩ (.string x)) where
  c0 := (World.cell?_setCell_other _ _ _ _ (by simp)).trans h.c0
  c1 := World.cell?_setCell_same _ _ _ h.c1
  c2 := (World.cell?_setCell_other _ _ _ _ (by simp)).trans h.c2
  c3 := (World.cell?_setCell_other _ _ _ _ (by simp)).trans h.c3
  c4 := (World.cell?_setCell_other _ _ _ _ (by simp)).trans h.c4
  f0 := by rw [World.frozen?_setCell]; exact h.f0
  f1 := by rw [World.frozen?_setCell]; exact h.f1
  f2 := by rw [World.frozen?_setCell]; exact h.f2
  f3 := by rw [World.frozen?_setCell]; exact h.f3
  f4 := by rw [World.frozen?_setCell]; exact h.f4
theorem Sc.set2 {B : Nat} {e : Int} {r : ByteArray} {t : M.St} {w : World} (h : Sc B e r t w) (x : Int) : Sc B e r (x, t.2.1, t.2.2) (w.setCell ⟨B, 2, none⟩ (.int .i64 x)) where
  c0 := (World.cell?_setCell_other _ _ _ _ (by simp)).trans h.c0
  c1 := (World.cell?_setCell_other _ _ _ _ (by simp)).trans h.c1
  c2 := World.cell?_setCell_same _ _ _ h.c2
  c3 := (World.cell?_setCell_other _ _ _ _ (by simp)).trans h.c3
  c4 := (World.cell?_setCell_other _ _ _ _ (by simp)).trans h.c4
  f0 := by rw [World.frozen?_setCell]; exact h.f0
  f1 := by rw [World.frozen?_setCell]; exact h.f1
  f2 := by rw [World.frozen?_setCell]; exact h.f2
  f3 := by rw [World.frozen?_setCell]; exact h.f3
  f4 := by rw [World.frozen?_setCell]; exact h.f4
theorem Sc.set3 {B : Nat} {e : Int} {r : ByteArray} {t : M.St} {w : World} (h : Sc B e r t w) (x : Bool) : Sc B e r (t.1, x, t.2.2) (w.setCell ⟨B, 3, none⟩ (.bool x)) where
  c0 := (World.cell?_setCell_other _ _ _ _ (by simp)).trans h.c0
  c1 := (World.cell?_setCell_other _ _ _ _ (by simp)).trans h.c1
  c2 := (World.cell?_setCell_other _ _ _ _ (by simp)).trans h.c2
  c3 := World.cell?_setCell_same _ _ _ h.c3
  c4 := (World.cell?_setCell_other _ _ _ _ (by simp)).trans h.c4
  f0 := by rw [World.frozen?_setCell]; exact h.f0
  f1 := by rw [World.frozen?_setCell]; exact h.f1
  f2 := by rw [World.frozen?_setCell]; exact h.f2
  f3 := by rw [World.frozen?_setCell]; exact h.f3
  f4 := by rw [World.frozen?_setCell]; exact h.f4
theorem Sc.drew {B : Nat} {e : Int} {r : ByteArray} {t : M.St} {w : World} (h : Sc B e r t w) : Sc B e r t w.drew := h.below (below_drewN (Below.refl w.heap.size w) 1) h.lt
theorem Rc.drew {B : Nat} {w : World} (h : Rc B w) : Rc B w.drew := h.below (below_drewN (Below.refl w.heap.size w) 1) (World.block_lt_of_cell? w _ h.b0)

end Go.Proofs.YtaiinjfnkmidbaaGreatDoor

namespace Go.Proofs.YtaiinjfnkmidbaaGreatDoor
open Go.RowKit
set_option linter.unusedVariables false

theorem fk_gk {h h' : Int × Bool} {l o : List Int} {z : Nat} (h0 : l ≠ []) (h1 : l ≠ [27]) (h2 : l ≠ [27, 40]) (hq : M.gk h l = (o, z, h')) : M.fk h l = some (o, z, h') := by
  cases hf : M.fk h l with
  | none => rcases M.fk_waits hf with e | e | e
            · exact absurd e h0
            · exact absurd e h1
            · exact absurd e h2
  | some r =>
    obtain ⟨o2, k2, s2⟩ := r
    rw [← (M.gk_all h l o2 k2 s2 hf).1, hq]
theorem fk_one (h : Int × Bool) : M.fk h [27] = none := by simp [M.fk]
theorem fk_two (h : Int × Bool) : M.fk h [27, 40] = none := by simp [M.fk]
/-- What a round of DecodeKana's loop knows. -/
def InQ (g0 : Int) (fr0 : Bool) (s : ByteArray) (w wr : World) (k : Nat) (v : Value) : Prop :=
  ∃ xs g fr, wr.ownsRow (w.heap.size + 2) 3 1 v xs.length (xs.map (Value.int .i64)) ∧ Pc w.heap.size g fr wr ∧ Pc (w.heap.size + 1) 0 false wr ∧ Below w.heap.size w wr ∧ M.Sg g ∧ xs.length ≤ k ∧
    M.Run M.fk (g0, fr0) (bl s) = (xs ++ (M.Run M.fk (g, fr) ((bl s).drop k)).1, (M.Run M.fk (g, fr) ((bl s).drop k)).2)
/-- The round's end. -/
theorem InQ.step {g0 : Int} {fr0 : Bool} {s : ByteArray} {w w2 : World} {k z : Nat} {xs o : List Int} {g g' : Int} {fr fr' : Bool} {v2 : Value} (hk : k < s.size)
    (hE : M.Run M.fk (g0, fr0) (bl s) = (xs ++ (M.Run M.fk (g, fr) ((bl s).drop k)).1, (M.Run M.fk (g, fr) ((bl s).drop k)).2)) (hx : xs.length ≤ k) (hg : M.Sg g) (hq : M.fk (g, fr) ((bl s).drop k) = some (o, z, (g', fr')))
    (ho : w2.ownsRow (w.heap.size + 2) 3 1 v2 (xs ++ o).length ((xs ++ o).map (Value.int .i64))) (hp : Pc w.heap.size g' fr' w2) (hr : Pc (w.heap.size + 1) 0 false w2) (hb : Below w.heap.size w w2) : InQ g0 fr0 s w w2 (k + z) v2 := by
  have hst := M.Run_step M.fk_steps hq
  have hq' := (M.gk_all _ _ _ _ _ hq).1
  have hfew := gk_few (g, fr) ((bl s).drop k)
  have hsg := gk_sg (fr := fr) ((bl s).drop k) hg
  rw [hq'] at hfew hsg
  refine ⟨xs ++ o, g', fr', ho, hp, hr, hb, hsg, by simp at hfew; simp; omega, ?_⟩
  rw [hE, hst, List.drop_drop]
  simp [List.append_assoc]
set_option maxHeartbeats 2000000 in
set_option maxRecDepth 100000 in
theorem decodeKana_more (g0 : Int) (fr0 : Bool) (s : ByteArray) (w : World) (hg0 : M.Sg g0) (hs : s.size ≤ 3300) :
    Calls Tryz.prog 120 #[.agg #[.int .i64 g0, .bool fr0], .string s, .bool false] w fun e w' => ∃ v rr, e = .returned (.tuple #[v, .agg #[.int .i64 (M.Run M.fk (g0, fr0) (bl s)).2.1.1, .bool (M.Run M.fk (g0, fr0) (bl s)).2.1.2], .string rr]) ∧ bl rr = (M.Run M.fk (g0, fr0) (bl s)).2.2 ∧ w'.ownsRow w.heap.size 3 1 v (M.Run M.fk (g0, fr0) (bl s)).1.length ((M.Run M.fk (g0, fr0) (bl s)).1.map (Value.int .i64)) ∧ Below w.heap.size w w' := by
  go_enter Tryz.func120, Tryz.ntmps120
  go_wp2_with fail
  generalize hW : (w.alloc (Obj.cells #[Value.int IntKind.i64 g0, Value.bool fr0] 144)).alloc (Obj.cells #[Value.int IntKind.i64 0, Value.bool false] 144) = W
  have HI : Hid (InQ g0 fr0 s w W 0 (.slice none 0 0)) := hide ⟨[], g0, fr0, World.ownsRow_nil _ _ _ _, by subst hW; constructor <;> simp [go_sem], by subst hW; constructor <;> simp [go_sem], by subst hW; exact bstep (balloc _ _) (balloc _ _), hg0, Nat.le_refl _, rfl⟩
  clear hW
  go_loopw [9, 10] (fun v i wr => ∃ k : Nat, k ≤ s.size ∧ i = .int .i64 k ∧ InQ g0 fr0 s w wr k v) (fun _ i _ => s.size - (intOf i).toNat)
  case atStart => exact ⟨0, by omega, rfl, unhide HI⟩
  case round =>
    obtain ⟨k, hk, rfl, xs, g, fr, ho, hP, hR, hB, hg, hxk, hE⟩ := hrel
    clear HI
    have HO := hide ho
    have HP := hide hP
    have HR := hide hR
    have HB := hide hB
    have HE := hide hE
    have HX := hide hxk
    have hxs : xs.length ≤ 3300 := by omega
    obtain ⟨av, cv, hsv⟩ := owns_shape ho
    subst hsv
    have hl1 := hR.lt
    have hl0 := hP.lt
    obtain ⟨p0, p1, q0, q1⟩ := hP
    clear ho hB hE hxk
    by_cases hks : k < s.size
    · clear hR
      obtain ⟨c, hc⟩ : ∃ c : Int, (s[k].toNat : Int) = c := ⟨_, rfl⟩
      have hc0 : 0 ≤ c := by omega
      have hc1 : c < 256 := by have := s[k].toNat_lt; omega
      have hk0 : (0 : Int) ≤ (k : Int) := by omega
      have hk1 : (k : Int) < (s.size : Int) := by omega
      have hhd : ((bl s).drop k).headD 0 = c := by rw [bl_drop s k hks, ← hc]; rfl
      by_cases h27 : c = 27
      · obtain ⟨u, hu⟩ : ∃ u, s.extract k s.size = u := ⟨_, rfl⟩
        have hbu : bl u = (bl s).drop k := by rw [← hu, bl_extract]
        have husz : u.size = s.size - k := by rw [← hu]; simp
        rw [h27] at hhd
        have HST : Hid (∀ o z g' fr' w2 v2, M.fk (g, fr) ((bl s).drop k) = some (o, z, (g', fr')) → w2.ownsRow (w.heap.size + 2) 3 1 v2 (xs ++ o).length ((xs ++ o).map (Value.int .i64)) → Pc w.heap.size g' fr' w2 → Pc (w.heap.size + 1) 0 false w2 → Below w.heap.size w w2 → InQ g0 fr0 s w w2 (k + z) v2) := hide (fun o z g' fr' w2 v2 a1 a2 a3 a4 a5 => InQ.step hks (unhide HE) (unhide HX) hg a1 a2 a3 a4 a5)
        have e27 : (c != 27) = false := by rw [h27]; rfl
        have hz2 : w.heap.size + 2 ≤ wr.heap.size := by omega
        have hu0 : (bl u).headD 0 = 27 := by rw [hbu]; exact hhd
        by_cases hw1 : bl u = [27]
        · have e1 : (u.toList == ([27] : List UInt8)) = true := by rw [beq_nums u [27] [27] (by decide +kernel) (by decide +kernel)]; exact decide_eq_true hw1
          rw [← hbu, hw1, M.Run_wait (fk_one _), List.append_nil] at HE
          have HW := hide hw1
          clear hw1 hhd hbu HST hu0 husz
          obtain ⟨b0, b1, g0', g1'⟩ := unhide HR
          go_wp2_with fail
          go_region
          all_goals
            go_wp2_with fail
            refine bodyPost_ret (v := .tuple #[.slice av xs.length cv, .agg #[.int .i64 g, .bool fr], .string u]) (by simp [results, Tryz.results120, go_sem, b0, b1]) rfl ?_
            refine ⟨.slice av xs.length cv, u, ?_, ?_, ?_, ?_⟩
            · rw [unhide HE]
            · rw [unhide HE]; exact unhide HW
            · rw [unhide HE]
              exact owns_below (owns_mono (owns_set (owns_set (unhide HO) ⟨w.heap.size + 1, 0, none⟩ (by simp) _) ⟨w.heap.size + 1, 1, none⟩ (by simp) _) (by omega)) (below_drewN (Below.refl _ _) 1)
            · exact below_drewN (bset (bset (unhide HB) ⟨w.heap.size + 1, 0, none⟩ _ (by simp)) ⟨w.heap.size + 1, 1, none⟩ _ (by simp)) 1
        by_cases hw2 : bl u = [27, 40]
        · have e1 : (u.toList == ([27] : List UInt8)) = false := by rw [beq_nums u [27] [27] (by decide +kernel) (by decide +kernel)]; exact decide_eq_false hw1
          have e2 : (u.toList == ([27, 40] : List UInt8)) = true := by rw [beq_nums u [27, 40] [27, 40] (by decide +kernel) (by decide +kernel)]; exact decide_eq_true hw2
          rw [← hbu, hw2, M.Run_wait (fk_two _), List.append_nil] at HE
          have HW := hide hw2
          clear hw1 hw2 hhd hbu HST hu0 husz
          obtain ⟨b0, b1, g0', g1'⟩ := unhide HR
          go_wp2_with fail
          go_region
          all_goals
            go_wp2_with fail
            refine bodyPost_ret (v := .tuple #[.slice av xs.length cv, .agg #[.int .i64 g, .bool fr], .string u]) (by simp [results, Tryz.results120, go_sem, b0, b1]) rfl ?_
            refine ⟨.slice av xs.length cv, u, ?_, ?_, ?_, ?_⟩
            · rw [unhide HE]
            · rw [unhide HE]; exact unhide HW
            · rw [unhide HE]
              exact owns_below (owns_mono (owns_set (owns_set (unhide HO) ⟨w.heap.size + 1, 0, none⟩ (by simp) _) ⟨w.heap.size + 1, 1, none⟩ (by simp) _) (by omega)) (below_drewN (Below.refl _ _) 1)
            · exact below_drewN (bset (bset (unhide HB) ⟨w.heap.size + 1, 0, none⟩ _ (by simp)) ⟨w.heap.size + 1, 1, none⟩ _ (by simp)) 1
        have e1 : (u.toList == ([27] : List UInt8)) = false := by rw [beq_nums u [27] [27] (by decide +kernel) (by decide +kernel)]; exact decide_eq_false hw1
        have e2 : (u.toList == ([27, 40] : List UInt8)) = false := by rw [beq_nums u [27, 40] [27, 40] (by decide +kernel) (by decide +kernel)]; exact decide_eq_false hw2
        have HGG : Hid (∀ o z g' fr', M.gk (g, fr) ((bl s).drop k) = (o, z, (g', fr')) → M.fk (g, fr) ((bl s).drop k) = some (o, z, (g', fr'))) := hide (fun o z g' fr' h => fk_gk (fun e => by have := congrArg List.length e; simp [bl_len] at this; omega) (hbu ▸ hw1) (hbu ▸ hw2) h)
        clear hw1 hw2
        by_cases h3 : u.size < 3
        · have hkn := kesc_short u h3
          have hlu : (u.size : Int) < 3 := by omega
          have HG : Hid (M.gk (g, fr) ((bl s).drop k) = ([65533], 1, (g, false))) := hide (by have := gk_none (g := g) (fr := fr) (hbu ▸ hkn) hhd; rwa [kpt_27] at this)
          clear hkn hhd hbu
          go_wp2_with (at_builtin; refine append_ints rfl (.tmp 68) (.tmp 69) rfl (w.heap.size + 2) _ xs rfl (owns_a (unhide HO) _) _ [65533] rfl (one_int _ _) (by simp; omega) (by simp; omega) ?_)
          intro v2 w2 ho2 hb2
          obtain ⟨ao2, cap2, hsh2⟩ := owns_shape ho2
          subst hsh2
          have HO2 := hide ho2
          have hb3 := ((Below.refl (w.heap.size + 2) wr).alloc hz2 (.cells #[.int .i64 65533] 3)).trans hb2
          have HP2 := hide ((unhide HP).below hb3 (by omega))
          have HR2 := hide ((unhide HR).below hb3 (by omega))
          have HB2 := hide ((unhide HB).trans (hb3.mono (by omega)))
          obtain ⟨a0, a1, b0, b1⟩ := unhide HP2
          have hl2 := (unhide HP2).lt
          clear ho2 hb2 hb3
          go_wp2_with fail
          go_roundw
          case rel => exact ⟨k + 1, by omega, by go_num, unhide HST _ _ _ _ _ _ (unhide HGG _ _ _ _ (unhide HG)) (by simpa using owns_set (unhide HO2) ⟨w.heap.size, 1, none⟩ (by simp) _) ((unhide HP2).set1 false) ((unhide HR2).far _ _ (by simp)) (bset (unhide HB2) ⟨w.heap.size, 1, none⟩ _ (Nat.le_refl _))⟩
          case measure => simp [intOf]; omega
        · have h3' : 3 ≤ u.size := by omega
          have hlu : (3 : Int) ≤ (u.size : Int) := by omega
          have husz' : k + 3 ≤ s.size := by omega
          obtain ⟨b, hb⟩ : ∃ b : Int, ((u[1]'(by omega)).toNat : Int) = b := ⟨_, rfl⟩
          obtain ⟨d, hd⟩ : ∃ d : Int, ((u[2]'(by omega)).toNat : Int) = d := ⟨_, rfl⟩
          have hka := kesc_at u h3' hu0 hb hd
          have hb0 : 0 ≤ b := by omega
          have hb1 : b < 256 := by have := (u[1]'(by omega)).toNat_lt; omega
          have hd0 : 0 ≤ d := by omega
          have hd1 : d < 256 := by have := (u[2]'(by omega)).toNat_lt; omega
          by_cases hb40 : b = 40
          · rw [if_pos hb40] at hka
            have eb : (b == 40) = true := by simpa using hb40
            obtain hd66 | hd74 | hd73 | hdn : d = 66 ∨ d = 74 ∨ d = 73 ∨ (d ≠ 66 ∧ d ≠ 74 ∧ d ≠ 73) := by omega
            · have hkn : M.kesc (bl u) = some 0 := by rw [hka, hd66]; rfl
              clear hka
              have HG : Hid (M.gk (g, fr) ((bl s).drop k) = (M.bads fr, 3, (0, true))) := hide (gk_some (g := g) (fr := fr) (hbu ▸ hkn))
              clear hkn hhd hbu
              cases fr
              · go_wp2_with fail
                go_roundw
                case rel => exact ⟨k + 3, by omega, by go_num, unhide HST _ _ _ _ _ _ (unhide HGG _ _ _ _ (unhide HG)) (by simpa [M.bads] using owns_set (owns_set (unhide HO) ⟨w.heap.size, 0, none⟩ (by simp) _) ⟨w.heap.size, 1, none⟩ (by simp) _) (((unhide HP).set0 0).set1 true) (((unhide HR).far _ _ (by simp)).far _ _ (by simp)) (bset (bset (unhide HB) ⟨w.heap.size, 0, none⟩ _ (Nat.le_refl _)) ⟨w.heap.size, 1, none⟩ _ (Nat.le_refl _))⟩
                case measure => simp [intOf]; omega
              · go_wp2_with (at_builtin; refine append_ints rfl (.tmp 76) (.tmp 77) rfl (w.heap.size + 2) _ xs rfl (owns_a (unhide HO) _) _ [65533] rfl (one_int _ _) (by simp; omega) (by simp; omega) ?_)
                intro v2 w2 ho2 hb2
                obtain ⟨ao2, cap2, hsh2⟩ := owns_shape ho2
                subst hsh2
                have HO2 := hide ho2
                have hb3 := ((Below.refl (w.heap.size + 2) wr).alloc hz2 (.cells #[.int .i64 65533] 3)).trans hb2
                have HP2 := hide ((unhide HP).below hb3 (by omega))
                have HR2 := hide ((unhide HR).below hb3 (by omega))
                have HB2 := hide ((unhide HB).trans (hb3.mono (by omega)))
                obtain ⟨a0, a1, b0, b1⟩ := unhide HP2
                have hl2 := (unhide HP2).lt
                clear ho2 hb2 hb3
                go_wp2_with fail
                go_roundw
                case rel => exact ⟨k + 3, by omega, by go_num, unhide HST _ _ _ _ _ _ (unhide HGG _ _ _ _ (unhide HG)) (by simpa [M.bads] using owns_set (owns_set (unhide HO2) ⟨w.heap.size, 0, none⟩ (by simp) _) ⟨w.heap.size, 1, none⟩ (by simp) _) (((unhide HP2).set0 0).set1 true) (((unhide HR2).far _ _ (by simp)).far _ _ (by simp)) (bset (bset (unhide HB2) ⟨w.heap.size, 0, none⟩ _ (Nat.le_refl _)) ⟨w.heap.size, 1, none⟩ _ (Nat.le_refl _))⟩
                case measure => simp [intOf]; omega
            · have hkn : M.kesc (bl u) = some 1 := by rw [hka, hd74]; rfl
              clear hka
              have HG : Hid (M.gk (g, fr) ((bl s).drop k) = (M.bads fr, 3, (1, true))) := hide (gk_some (g := g) (fr := fr) (hbu ▸ hkn))
              clear hkn hhd hbu
              cases fr
              · go_wp2_with fail
                go_roundw
                case rel => exact ⟨k + 3, by omega, by go_num, unhide HST _ _ _ _ _ _ (unhide HGG _ _ _ _ (unhide HG)) (by simpa [M.bads] using owns_set (owns_set (unhide HO) ⟨w.heap.size, 0, none⟩ (by simp) _) ⟨w.heap.size, 1, none⟩ (by simp) _) (((unhide HP).set0 1).set1 true) (((unhide HR).far _ _ (by simp)).far _ _ (by simp)) (bset (bset (unhide HB) ⟨w.heap.size, 0, none⟩ _ (Nat.le_refl _)) ⟨w.heap.size, 1, none⟩ _ (Nat.le_refl _))⟩
                case measure => simp [intOf]; omega
              · go_wp2_with (at_builtin; refine append_ints rfl (.tmp 76) (.tmp 77) rfl (w.heap.size + 2) _ xs rfl (owns_a (unhide HO) _) _ [65533] rfl (one_int _ _) (by simp; omega) (by simp; omega) ?_)
                intro v2 w2 ho2 hb2
                obtain ⟨ao2, cap2, hsh2⟩ := owns_shape ho2
                subst hsh2
                have HO2 := hide ho2
                have hb3 := ((Below.refl (w.heap.size + 2) wr).alloc hz2 (.cells #[.int .i64 65533] 3)).trans hb2
                have HP2 := hide ((unhide HP).below hb3 (by omega))
                have HR2 := hide ((unhide HR).below hb3 (by omega))
                have HB2 := hide ((unhide HB).trans (hb3.mono (by omega)))
                obtain ⟨a0, a1, b0, b1⟩ := unhide HP2
                have hl2 := (unhide HP2).lt
                clear ho2 hb2 hb3
                go_wp2_with fail
                go_roundw
                case rel => exact ⟨k + 3, by omega, by go_num, unhide HST _ _ _ _ _ _ (unhide HGG _ _ _ _ (unhide HG)) (by simpa [M.bads] using owns_set (owns_set (unhide HO2) ⟨w.heap.size, 0, none⟩ (by simp) _) ⟨w.heap.size, 1, none⟩ (by simp) _) (((unhide HP2).set0 1).set1 true) (((unhide HR2).far _ _ (by simp)).far _ _ (by simp)) (bset (bset (unhide HB2) ⟨w.heap.size, 0, none⟩ _ (Nat.le_refl _)) ⟨w.heap.size, 1, none⟩ _ (Nat.le_refl _))⟩
                case measure => simp [intOf]; omega
            · have hkn : M.kesc (bl u) = some 2 := by rw [hka, hd73]; rfl
              clear hka
              have HG : Hid (M.gk (g, fr) ((bl s).drop k) = (M.bads fr, 3, (2, true))) := hide (gk_some (g := g) (fr := fr) (hbu ▸ hkn))
              clear hkn hhd hbu
              cases fr
              · go_wp2_with fail
                go_roundw
                case rel => exact ⟨k + 3, by omega, by go_num, unhide HST _ _ _ _ _ _ (unhide HGG _ _ _ _ (unhide HG)) (by simpa [M.bads] using owns_set (owns_set (unhide HO) ⟨w.heap.size, 0, none⟩ (by simp) _) ⟨w.heap.size, 1, none⟩ (by simp) _) (((unhide HP).set0 2).set1 true) (((unhide HR).far _ _ (by simp)).far _ _ (by simp)) (bset (bset (unhide HB) ⟨w.heap.size, 0, none⟩ _ (Nat.le_refl _)) ⟨w.heap.size, 1, none⟩ _ (Nat.le_refl _))⟩
                case measure => simp [intOf]; omega
              · go_wp2_with (at_builtin; refine append_ints rfl (.tmp 76) (.tmp 77) rfl (w.heap.size + 2) _ xs rfl (owns_a (unhide HO) _) _ [65533] rfl (one_int _ _) (by simp; omega) (by simp; omega) ?_)
                intro v2 w2 ho2 hb2
                obtain ⟨ao2, cap2, hsh2⟩ := owns_shape ho2
                subst hsh2
                have HO2 := hide ho2
                have hb3 := ((Below.refl (w.heap.size + 2) wr).alloc hz2 (.cells #[.int .i64 65533] 3)).trans hb2
                have HP2 := hide ((unhide HP).below hb3 (by omega))
                have HR2 := hide ((unhide HR).below hb3 (by omega))
                have HB2 := hide ((unhide HB).trans (hb3.mono (by omega)))
                obtain ⟨a0, a1, b0, b1⟩ := unhide HP2
                have hl2 := (unhide HP2).lt
                clear ho2 hb2 hb3
                go_wp2_with fail
                go_roundw
                case rel => exact ⟨k + 3, by omega, by go_num, unhide HST _ _ _ _ _ _ (unhide HGG _ _ _ _ (unhide HG)) (by simpa [M.bads] using owns_set (owns_set (unhide HO2) ⟨w.heap.size, 0, none⟩ (by simp) _) ⟨w.heap.size, 1, none⟩ (by simp) _) (((unhide HP2).set0 2).set1 true) (((unhide HR2).far _ _ (by simp)).far _ _ (by simp)) (bset (bset (unhide HB2) ⟨w.heap.size, 0, none⟩ _ (Nat.le_refl _)) ⟨w.heap.size, 1, none⟩ _ (Nat.le_refl _))⟩
                case measure => simp [intOf]; omega
            · have hf : fin3 d = -1 := by unfold fin3; rw [if_neg hdn.1, if_neg hdn.2.1, if_neg hdn.2.2]
              have hkn : M.kesc (bl u) = none := by rw [hka, hf]; rfl
              have ed1 : (d == 66) = false := by simpa using hdn.1
              have ed2 : (d == 74) = false := by simpa using hdn.2.1
              have ed3 : (d == 73) = false := by simpa using hdn.2.2
              clear hka hf hdn
              have HG : Hid (M.gk (g, fr) ((bl s).drop k) = ([65533], 1, (g, false))) := hide (by have := gk_none (g := g) (fr := fr) (hbu ▸ hkn) hhd; rwa [kpt_27] at this)
              clear hkn hhd hbu
              go_wp2_with (at_builtin; refine append_ints rfl (.tmp 68) (.tmp 69) rfl (w.heap.size + 2) _ xs rfl (owns_a (unhide HO) _) _ [65533] rfl (one_int _ _) (by simp; omega) (by simp; omega) ?_)
              intro v2 w2 ho2 hb2
              obtain ⟨ao2, cap2, hsh2⟩ := owns_shape ho2
              subst hsh2
              have HO2 := hide ho2
              have hb3 := ((Below.refl (w.heap.size + 2) wr).alloc hz2 (.cells #[.int .i64 65533] 3)).trans hb2
              have HP2 := hide ((unhide HP).below hb3 (by omega))
              have HR2 := hide ((unhide HR).below hb3 (by omega))
              have HB2 := hide ((unhide HB).trans (hb3.mono (by omega)))
              obtain ⟨a0, a1, b0, b1⟩ := unhide HP2
              have hl2 := (unhide HP2).lt
              clear ho2 hb2 hb3
              go_wp2_with fail
              go_roundw
              case rel => exact ⟨k + 1, by omega, by go_num, unhide HST _ _ _ _ _ _ (unhide HGG _ _ _ _ (unhide HG)) (by simpa using owns_set (unhide HO2) ⟨w.heap.size, 1, none⟩ (by simp) _) ((unhide HP2).set1 false) ((unhide HR2).far _ _ (by simp)) (bset (unhide HB2) ⟨w.heap.size, 1, none⟩ _ (Nat.le_refl _))⟩
              case measure => simp [intOf]; omega
          · rw [if_neg hb40] at hka
            have hkn := hka
            have eb : (b == 40) = false := by simpa using hb40
            clear hka
            have HG : Hid (M.gk (g, fr) ((bl s).drop k) = ([65533], 1, (g, false))) := hide (by have := gk_none (g := g) (fr := fr) (hbu ▸ hkn) hhd; rwa [kpt_27] at this)
            clear hkn hhd hbu
            go_wp2_with (at_builtin; refine append_ints rfl (.tmp 68) (.tmp 69) rfl (w.heap.size + 2) _ xs rfl (owns_a (unhide HO) _) _ [65533] rfl (one_int _ _) (by simp; omega) (by simp; omega) ?_)
            intro v2 w2 ho2 hb2
            obtain ⟨ao2, cap2, hsh2⟩ := owns_shape ho2
            subst hsh2
            have HO2 := hide ho2
            have hb3 := ((Below.refl (w.heap.size + 2) wr).alloc hz2 (.cells #[.int .i64 65533] 3)).trans hb2
            have HP2 := hide ((unhide HP).below hb3 (by omega))
            have HR2 := hide ((unhide HR).below hb3 (by omega))
            have HB2 := hide ((unhide HB).trans (hb3.mono (by omega)))
            obtain ⟨a0, a1, b0, b1⟩ := unhide HP2
            have hl2 := (unhide HP2).lt
            clear ho2 hb2 hb3
            go_wp2_with fail
            go_roundw
            case rel => exact ⟨k + 1, by omega, by go_num, unhide HST _ _ _ _ _ _ (unhide HGG _ _ _ _ (unhide HG)) (by simpa using owns_set (unhide HO2) ⟨w.heap.size, 1, none⟩ (by simp) _) ((unhide HP2).set1 false) ((unhide HR2).far _ _ (by simp)) (bset (unhide HB2) ⟨w.heap.size, 1, none⟩ _ (Nat.le_refl _))⟩
            case measure => simp [intOf]; omega
      · have hn : M.kesc ((bl s).drop k) = none := by
          rw [bl_drop s k hks, hc]
          match hd : (bl s).drop (k + 1) with
          | [] => rfl
          | [_] => rfl
          | a :: b :: t => simp [M.kesc, h27]
        have HG0 := gk_none (g := g) (fr := fr) hn hhd
        have HG := hide (fk_gk (fun e => by rw [e] at hhd; exact absurd (congrArg List.length e) (by simp [bl_len]; omega)) (fun e => by rw [e] at hhd; exact h27 hhd.symm) (fun e => by rw [e] at hhd; exact h27 hhd.symm) HG0)
        clear HG0
        have hkp : M.kpt g c = M.ksn g c := by unfold M.kpt; rw [if_neg h27]
        rw [hkp] at HG
        have hsg := fun w => kanaSign_any g c hg hc0 hc1 w
        obtain ⟨p, hp⟩ : ∃ p, M.ksn g c = p := ⟨_, rfl⟩
        rw [hp] at hsg HG
        have e27 : (c != 27) = true := by simpa using h27
        have hwc : IntKind.i64.wrap c = c := by rw [IntKind.wrap_i64]; omega
        have hz2 : w.heap.size + 2 ≤ wr.heap.size := by omega
        clear hn hkp hp hhd
        go_wp2_with fail
        go_region_law ((first
          | (refine step_append_ints (by rfl) _ _ (by rfl) (w.heap.size + 2) _ xs (by rfl) (((unhide HO).alloc _).drew) _ [p] (by rfl) ((one_int _ _).drew) (by simp; omega) (by simp; omega) ?_; intro ao2 cap2 w2 ho2 hb2; have HO2 := hide ho2; have hb3 := (below_drewN ((Below.refl (w.heap.size + 2) wr).alloc hz2 (.cells #[.int .i64 p] 3)) 1).trans hb2; have HP2 := hide ((unhide HP).below hb3 (by omega)); have HR2 := hide ((unhide HR).below hb3 (by omega)); have HB2 := hide ((unhide HB).trans (hb3.mono (by omega))); obtain ⟨a0, a1, b0, b1⟩ := unhide HP2; have hl2 := (unhide HP2).lt; clear ho2 hb2 hb3)
          | (go_simp; go_at_call 174; refine (hsg _).mono ?_; rintro e w1 ⟨rfl, hw⟩; replace hw := hw.symm; subst hw)))
        all_goals
          go_wp2_with fail
          go_roundw
          case rel => exact ⟨k + 1, by omega, by go_num, InQ.step hks (unhide HE) (unhide HX) hg (unhide HG) (by simpa using owns_set (unhide HO2) ⟨w.heap.size, 1, none⟩ (by simp) _) ((unhide HP2).set1 false) ((unhide HR2).far _ _ (by simp)) (bset (unhide HB2) ⟨w.heap.size, 1, none⟩ _ (Nat.le_refl _))⟩
          case measure => simp [intOf]; omega
    · have ek : (bl s).drop k = [] := List.drop_of_length_le (by rw [bl_len]; omega)
      rw [ek, M.Run_nil, List.append_nil] at HE
      obtain ⟨b0, b1, g0', g1'⟩ := hR
      clear ek
      go_wp2_with fail
      go_region
      all_goals
        go_wp2_with fail
        refine bodyPost_ret (v := .tuple #[.slice av xs.length cv, .agg #[.int .i64 g, .bool fr], .string ⟨#[]⟩]) (by simp [results, Tryz.results120, go_sem, b0, b1]) rfl ?_
        refine ⟨.slice av xs.length cv, ⟨#[]⟩, ?_, ?_, ?_, ?_⟩
        · rw [unhide HE]
        · rw [unhide HE]; rfl
        · rw [unhide HE]
          exact owns_below (owns_mono (owns_set (owns_set (unhide HO) ⟨w.heap.size + 1, 0, none⟩ (by simp) _) ⟨w.heap.size + 1, 1, none⟩ (by simp) _) (by omega)) (below_drewN (Below.refl _ _) 1)
        · exact below_drewN (bset (bset (unhide HB) ⟨w.heap.size + 1, 0, none⟩ _ (by simp)) ⟨w.heap.size + 1, 1, none⟩ _ (by simp)) 1
end Go.Proofs.YtaiinjfnkmidbaaGreatDoor

namespace Go.Proofs.YtaiinjfnkmidbaaGreatDoor.M

/-- Are bytes within their bounds: the first one of them within lo and hi, all further ones within 128 and 191? -/
def chk : Int → Int → List Int → Bool
  | _, _, [] => true
  | lo, hi, c :: t => decide (lo ≤ c ∧ c ≤ hi) && chk 128 191 t
/-- The number that bytes tell behind others. -/
def val : Int → List Int → Int
  | p, [] => p
  | p, c :: t => val (p * 64 + c % 64) t
/-- Do bytes begin a scalar? -/
def begOk : List Int → Bool
  | [] => true
  | c :: t => decide (bSize c ≠ 0 ∧ (t.length : Int) < bSize c) && chk (bLow c) (bHigh c) t

theorem go_chk : ∀ (j r : Nat) (i p lo hi : Int) (t : List Int), j ≤ r → j ≤ t.length → chk lo hi (t.take j) = true →
    go r i p lo hi t = go (r - j) (i + j) (val p (t.take j)) (if j = 0 then lo else 128) (if j = 0 then hi else 191) (t.drop j) := by
  intro j
  induction j with
  | zero => intro r i p lo hi t _ _ _; simp [val]
  | succ j ih =>
    intro r i p lo hi t hr ht hc
    cases t with
    | nil => simp at ht
    | cons c t =>
      cases r with
      | zero => omega
      | succ r =>
        simp only [List.take_succ_cons, chk, Bool.and_eq_true, decide_eq_true_eq] at hc
        simp only [go]
        rw [if_neg (by omega)]
        rw [ih r (i + 1) (p * 64 + c % 64) 128 191 t (by omega) (by simp at ht; omega) hc.2]
        simp only [List.take_succ_cons, val, List.drop_succ_cons, Nat.add_sub_add_right]
        have e : i + 1 + (j : Int) = i + ((j + 1 : Nat) : Int) := by omega
        rw [e]
        split <;> simp

theorem chk_snoc : ∀ (t : List Int) (lo hi x : Int), chk lo hi (t ++ [x]) = (chk lo hi t && decide ((if t = [] then lo else 128) ≤ x ∧ x ≤ (if t = [] then hi else 191))) := by
  intro t
  induction t with
  | nil => intro lo hi x; simp [chk]
  | cons c t ih =>
    intro lo hi x
    simp only [List.cons_append, chk]
    rw [ih, Bool.and_assoc]
    by_cases h : t = [] <;> simp [h]

theorem take_one {l : List Int} (h : l ≠ []) : ∃ c t, l = c :: t := by
  cases l with
  | nil => exact absurd rfl h
  | cons c t => exact ⟨c, t, rfl⟩

/-- All of a scalar's bytes are there. -/
theorem nxt_done {c : Int} {t : List Int} {k : Nat} (hk : k ≤ t.length) (hb : begOk (c :: t.take k) = true) (he : ((k + 1 : Nat) : Int) = bSize c) :
    nxt (c :: t) = (val (bBits c) (t.take k), ((k + 1 : Nat) : Int), false) := by
  simp only [begOk, Bool.and_eq_true, decide_eq_true_eq] at hb
  simp only [nxt]
  rw [if_neg hb.1.1, go_chk k _ 1 _ _ _ t (by omega) hk hb.2, show (bSize c - 1).toNat - k = 0 from by omega]
  simp only [go]
  congr 2
  omega

/-- The text ends ahead of a scalar's end. -/
theorem nxt_left {c : Int} {t : List Int} (hb : begOk (c :: t) = true) (he : ((t.length + 1 : Nat) : Int) ≠ bSize c) :
    nxt (c :: t) = (65533, ((t.length + 1 : Nat) : Int), true) := by
  simp only [begOk, Bool.and_eq_true, decide_eq_true_eq] at hb
  simp only [nxt]
  rw [if_neg hb.1.1, go_chk t.length _ 1 _ _ _ t (by omega) (Nat.le_refl _) (by rw [List.take_length]; exact hb.2)]
  obtain ⟨m, hm⟩ : ∃ m, (bSize c - 1).toNat - t.length = m + 1 := ⟨(bSize c - 1).toNat - t.length - 1, by omega⟩
  rw [hm, List.drop_length]
  simp only [go]
  congr 2
  omega

/-- A byte that may not stand there. -/
theorem nxt_bad {c : Int} {t : List Int} {k : Nat} (hk : k < t.length) (hb : begOk (c :: t.take k) = true) (he : ((k + 1 : Nat) : Int) ≠ bSize c) (hn : begOk (c :: t.take (k + 1)) = false) :
    nxt (c :: t) = (65533, ((k + 1 : Nat) : Int), false) := by
  have ht : t.take (k + 1) = t.take k ++ [t[k]] := List.take_succ_eq_append_getElem hk
  have hl : (t.take k).length = k := by rw [List.length_take]; omega
  simp only [begOk, Bool.and_eq_true, decide_eq_true_eq] at hb
  rw [hl] at hb
  simp only [begOk, Bool.and_eq_false_iff, decide_eq_false_iff_not] at hn
  rw [ht, chk_snoc, hb.2, List.length_append, hl] at hn
  simp only [List.length_cons, List.length_nil, Bool.true_and, decide_eq_false_iff_not] at hn
  simp only [nxt]
  rw [if_neg hb.1.1, go_chk k _ 1 _ _ _ t (by omega) (by omega) hb.2]
  obtain ⟨m, hm⟩ : ∃ m, (bSize c - 1).toNat - k = m + 1 := ⟨(bSize c - 1).toNat - k - 1, by omega⟩
  rw [hm, List.drop_eq_getElem_cons hk]
  simp only [go]
  have hz : (t.take k = []) ↔ k = 0 := by
    constructor
    · intro e; rw [e] at hl; simpa using hl.symm
    · intro e; rw [e]; rfl
  have hcond : t[k] < (if k = 0 then bLow c else 128) ∨ (if k = 0 then bHigh c else 191) < t[k] := by
    rcases hn with hn | hn
    · exfalso; apply hn; refine ⟨hb.1.1, ?_⟩; omega
    · simp only [hz] at hn
      omega
  rw [if_pos hcond]
  congr 2
  omega

theorem nxt_first {c : Int} (t : List Int) (hb : begOk [c] = false) : nxt (c :: t) = (65533, 1, false) := by
  have hs := bSize_bd c
  have h0 : bSize c = 0 := by
    simp only [begOk, chk, Bool.and_true, decide_eq_false_iff_not, List.length_nil] at hb
    omega
  simp only [nxt]
  rw [if_pos h0]
end Go.Proofs.YtaiinjfnkmidbaaGreatDoor.M
