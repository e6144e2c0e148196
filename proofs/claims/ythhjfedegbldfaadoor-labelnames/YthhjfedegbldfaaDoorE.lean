/- The contracts of label.Find and label.Name: what the tables of labels say; nothing that was there is written. -/
import Derived.Test.YthhjfedegbldfaaDoorD
namespace Go.Proofs.YthhjfedegbldfaaDoor
open Go.RowKit
set_option linter.unusedVariables false

theorem field_1 (x : ByteArray) (r : Int) (w : World) : Sem.run Tryd.prog (Instr.field 39 (.agg #[.string x, .int .i64 r]) 1) w = .ok (.int .i64 r) w := by
  kernel_rfl
theorem field_0 (x : ByteArray) (r : Int) (w : World) : Sem.run Tryd.prog (Instr.field 39 (.agg #[.string x, .int .i64 r]) 0) w = .ok (.string x) w := by
  kernel_rfl

/-- The number that a text's label has, or 0. -/
def findI (s : ByteArray) : Int := lk labs (strOfNums (fdI (trI (bl s))))

theorem fd_size (s : ByteArray) (hs : s.size ≤ 3000) : (strOfNums (fdI (trI (bl s)))).size ≤ 3000 := by
  rw [strOfNums_size, fd_len]; have := tr_len (bl s); rw [bl_len] at this; omega

theorem ftr_any (s : ByteArray) (w : World) (hs : s.size ≤ 3000) :
    Calls Tryd.prog 20 #[.string (strOfNums (trI (bl s)))] w fun e w' => e = .returned (.string (strOfNums (fdI (trI (bl s))))) ∧ Below w.heap.size w w' := by
  have := fold_any (strOfNums (trI (bl s))) w (tr_size s hs)
  rw [bl_str _ (tr_byt (bl_byt s))] at this
  exact this

set_option maxHeartbeats 1000000 in
set_option maxRecDepth 100000 in
theorem find1_any (s : ByteArray) (w : World) (hs : s.size ≤ 3000) :
    Calls Tryd.prog 22 #[.string s] w fun e w' => e = .returned (.int .i64 (findI s)) ∧ Below w.heap.size w w' := by
  have HT := hide (fun w => trim_any s w hs)
  have HF := hide (fun w => ftr_any s w hs)
  unfold findI
  generalize strOfNums (fdI (trI (bl s))) = n at *
  generalize strOfNums (trI (bl s)) = t at *
  go_enter Tryd.func22, Tryd.ntmps22
  go_wp2_with fail
  refine (unhide HT _).mono ?_
  rintro e w1 ⟨rfl, hb1⟩
  go_wp2_with fail
  refine (unhide HF _).mono ?_
  rintro e w2 ⟨rfl, hb2⟩
  go_wp2_with fail
  refine (Labels_any _).mono ?_
  rintro e w3 ⟨rfl, hw⟩
  replace hw := hw.symm
  subst hw
  have hT : Tab ((w2.alloc (.cells #[.string n] 9)).alloc (.cells (tabCells labs) 39)) (w2.heap.size + 1) labs := by
    have e : (w2.alloc (.cells #[.string n] 9)).heap.size = w2.heap.size + 1 := by simp
    rw [← e]; exact Tab.new _ _ _
  have hC : ((w2.alloc (.cells #[.string n] 9)).alloc (.cells (tabCells labs) 39)).cell? ⟨w2.heap.size, 0, none⟩ = some (.string n) := by
    rw [World.cell?_alloc_lt _ _ _ (by simp)]; simp
  have HP := hide (first_name labs n (w2.heap.size + 1) w2.heap.size 22 _ (by decide) hT (by simp) hC)
  have HB := hide (bstep (bstep (bstep hb1 hb2) (balloc _ (.cells #[.string n] 9))) (balloc _ (.cells (tabCells labs) 39)))
  rw [show labs.length = 22 from rfl] at HP
  generalize tabCells labs = tc at *
  clear hT hC hb1 hb2 HT HF
  go_wp2_with fail
  refine (unhide HP).mono ?_
  rintro e w4 ⟨x, rfl, hb4⟩
  have hf0 := @field_0
  have hf1 := @field_1
  go_wp2_with fail
  go_ret
  exact ⟨rfl, bstep (unhide HB) hb4⟩

set_option maxHeartbeats 400000 in
set_option maxRecDepth 100000 in
theorem Find_ok (s : ByteArray) (w : World) (hs : s.size ≤ 3000) :
    Calls Tryd.prog 7 #[.string s] w fun e w' => e = .returned (.tuple #[.int .i64 (findI s), .int .i64 0]) ∧ Below w.heap.size w w' := by
  have HC := hide (fun w => find1_any s w hs)
  generalize findI s = r at HC ⊢
  go_enter Tryd.func7, Tryd.ntmps7
  go_wp2_with (first | (go_at_call 22; refine (unhide HC _).mono ?_; rintro e w1 ⟨rfl, hb⟩) | go_in)
  go_ret2
  exact ⟨rfl, by assumption⟩

set_option maxHeartbeats 400000 in
set_option maxRecDepth 100000 in
theorem Find_long (s : ByteArray) (w : World) (hs : 3000 < s.size) (hm : s.size ≤ maxLen) :
    Calls Tryd.prog 7 #[.string s] w fun e w' => e = .returned (.tuple #[.int .i64 0, .int .i64 2]) ∧ w' = w := by
  unfold maxLen at hm
  go_enter Tryd.func7, Tryd.ntmps7
  go_wp2
  go_ret2
  exact ⟨rfl, rfl⟩

/-- The name that is told of an encoding. -/
def nameI (n : Int) : ByteArray := nm tolds n
theorem nameI_yes (n : Int) (h : 1 ≤ n ∧ n ≤ 7) : (nameI n).toList.isEmpty = false := by
  rcases (show n = 1 ∨ n = 2 ∨ n = 3 ∨ n = 4 ∨ n = 5 ∨ n = 6 ∨ n = 7 from by omega) with rfl | rfl | rfl | rfl | rfl | rfl | rfl <;> (rw [ByteArray.toList_eq]; decide +kernel)
theorem nameI_no (n : Int) (h : ¬ (1 ≤ n ∧ n ≤ 7)) : nameI n = ⟨#[]⟩ := by
  have h1 : ((1 : Int) == n) = false := by simp; omega
  have h2 : ((2 : Int) == n) = false := by simp; omega
  have h3 : ((3 : Int) == n) = false := by simp; omega
  have h4 : ((4 : Int) == n) = false := by simp; omega
  have h5 : ((5 : Int) == n) = false := by simp; omega
  have h6 : ((6 : Int) == n) = false := by simp; omega
  have h7 : ((7 : Int) == n) = false := by simp; omega
  unfold nameI tolds
  simp only [nm, h1, h2, h3, h4, h5, h6, h7]
  rfl

set_option maxHeartbeats 1000000 in
set_option maxRecDepth 100000 in
theorem Name_yes (n : Int) (w : World) (h : 1 ≤ n ∧ n ≤ 7) :
    Calls Tryd.prog 8 #[.int .i64 n] w fun e w' => e = .returned (.tuple #[.string (nameI n), .int .i64 0]) ∧ Below w.heap.size w w' := by
  have he := nameI_yes n h
  have HI : Hid (nameI n = nm tolds n) := rfl
  go_enter Tryd.func8, Tryd.ntmps8
  go_wp2_with fail
  refine (told_any _).mono ?_
  rintro e w3 ⟨rfl, hw⟩
  replace hw := hw.symm
  subst hw
  have hT : Tab ((w.alloc (.cells #[.int .i64 n] 3)).alloc (.cells (tabCells tolds) 39)) (w.heap.size + 1) tolds := by
    have e : (w.alloc (.cells #[.int .i64 n] 3)).heap.size = w.heap.size + 1 := by simp
    rw [← e]; exact Tab.new _ _ _
  have hC : ((w.alloc (.cells #[.int .i64 n] 3)).alloc (.cells (tabCells tolds) 39)).cell? ⟨w.heap.size, 0, none⟩ = some (.int .i64 n) := by
    rw [World.cell?_alloc_lt _ _ _ (by simp)]; simp
  have HP := hide (first_number tolds n (w.heap.size + 1) w.heap.size 7 _ (by decide) hT (by simp) hC)
  have HB := hide (bstep (balloc w (.cells #[.int .i64 n] 3)) (balloc _ (.cells (tabCells tolds) 39)))
  rw [show tolds.length = 7 from rfl, ← unhide HI] at HP
  generalize tabCells tolds = tc at *
  clear hT hC HI
  go_wp2_with fail
  refine (unhide HP).mono ?_
  rintro e w4 ⟨x, rfl, hb4⟩
  have hf0 := @field_0
  have hf1 := @field_1
  go_wp2_with fail
  go_ret2
  exact ⟨rfl, bstep (unhide HB) hb4⟩

set_option maxHeartbeats 1000000 in
set_option maxRecDepth 100000 in
theorem Name_no (n : Int) (w : World) (h : ¬ (1 ≤ n ∧ n ≤ 7)) :
    Calls Tryd.prog 8 #[.int .i64 n] w fun e w' => e = .returned (.tuple #[.string ⟨#[]⟩, .int .i64 6]) ∧ Below w.heap.size w w' := by
  have HI : Hid (nm tolds n = ⟨#[]⟩) := nameI_no n h
  go_enter Tryd.func8, Tryd.ntmps8
  go_wp2_with fail
  refine (told_any _).mono ?_
  rintro e w3 ⟨rfl, hw⟩
  replace hw := hw.symm
  subst hw
  have hT : Tab ((w.alloc (.cells #[.int .i64 n] 3)).alloc (.cells (tabCells tolds) 39)) (w.heap.size + 1) tolds := by
    have e : (w.alloc (.cells #[.int .i64 n] 3)).heap.size = w.heap.size + 1 := by simp
    rw [← e]; exact Tab.new _ _ _
  have hC : ((w.alloc (.cells #[.int .i64 n] 3)).alloc (.cells (tabCells tolds) 39)).cell? ⟨w.heap.size, 0, none⟩ = some (.int .i64 n) := by
    rw [World.cell?_alloc_lt _ _ _ (by simp)]; simp
  have HP := hide (first_number tolds n (w.heap.size + 1) w.heap.size 7 _ (by decide) hT (by simp) hC)
  have HB := hide (bstep (balloc w (.cells #[.int .i64 n] 3)) (balloc _ (.cells (tabCells tolds) 39)))
  rw [show tolds.length = 7 from rfl, unhide HI] at HP
  generalize tabCells tolds = tc at *
  clear hT hC HI
  go_wp2_with fail
  refine (unhide HP).mono ?_
  rintro e w4 ⟨x, rfl, hb4⟩
  have hf0 := @field_0
  have hf1 := @field_1
  go_wp2_with fail
  go_ret2
  exact ⟨rfl, bstep (unhide HB) hb4⟩
end Go.Proofs.YthhjfedegbldfaaDoor
