/- The walk of AttrPlain over what attr's calls have to answer: true; nothing that was there is written. -/
import Derived.Test.YthhjfedegbldfaeDoorAD
namespace Go.Proofs.YthhjfedegbldfaeDoor
open Go.RowKit
set_option linter.unusedVariables false

theorem plain_0 {n v b : ByteArray} (hn : plain n = true) (hv : plain v = true) :
    attrI (bl (n ++ ⟨#[61]⟩ ++ v ++ ⟨#[32]⟩ ++ b)) 0 = ((bl n, bl v), n.size + 1 + v.size, true) := by
  obtain ⟨h1, h2⟩ := plain_yes hn
  obtain ⟨h3, h4⟩ := plain_yes hv
  have := attr_bare (pre := []) (nm := bl n) (g := []) (g2 := []) (val := bl v) (c := 32) (behind := bl b) rfl h1 h2 rfl rfl h3 h4 (by decide)
  simp only [bl_len, List.length_nil, Nat.zero_add, Nat.add_zero] at this
  rw [← this]
  simp only [bl_app]
  congr 1
  rw [show bl ⟨#[61]⟩ = [61] from by decide, show bl ⟨#[32]⟩ = [32] from by decide]
  simp
theorem plain_1 {n v b : ByteArray} (hn : plain n = true) (hv : plain v = true) :
    attrI (bl (⟨#[32]⟩ ++ n ++ ⟨#[61, 39]⟩ ++ v ++ ⟨#[39]⟩ ++ b)) 0 = ((bl n, bl v), 1 + n.size + 2 + v.size + 1, true) := by
  obtain ⟨h1, h2⟩ := plain_yes hn
  obtain ⟨h3, h4⟩ := plain_yes hv
  have := attr_quote (pre := [32]) (nm := bl n) (g := []) (g2 := []) (val := bl v) (q := 39) (behind := bl b) (by decide) h1 h2 rfl rfl h3 (.inr rfl)
  simp only [bl_len, List.length_nil, List.length_cons, Nat.zero_add, Nat.add_zero] at this
  rw [show 1 + n.size + 2 + v.size + 1 = 1 + n.size + 1 + 1 + v.size + 1 from by omega, ← this]
  simp only [bl_app]
  congr 1
  rw [show bl ⟨#[61, 39]⟩ = [61, 39] from by decide, show bl ⟨#[32]⟩ = [32] from by decide, show bl ⟨#[39]⟩ = [39] from by decide]
  simp
theorem plain_2 {n v b : ByteArray} (hn : plain n = true) (hv : plain v = true) :
    attrI (bl (⟨#[47]⟩ ++ n ++ ⟨#[32, 61, 32, 34]⟩ ++ v ++ ⟨#[34]⟩ ++ b)) 0 = ((bl n, bl v), 1 + n.size + 4 + v.size + 1, true) := by
  obtain ⟨h1, h2⟩ := plain_yes hn
  obtain ⟨h3, h4⟩ := plain_yes hv
  have := attr_quote (pre := [47]) (nm := bl n) (g := [32]) (g2 := [32]) (val := bl v) (q := 34) (behind := bl b) (by decide) h1 h2 (by decide) (by decide) h3 (.inl rfl)
  simp only [bl_len, List.length_nil, List.length_cons, Nat.zero_add] at this
  rw [show 1 + n.size + 4 + v.size + 1 = 1 + n.size + 1 + 1 + 1 + 1 + v.size + 1 from by omega, ← this]
  simp only [bl_app]
  congr 1
  rw [show bl ⟨#[32, 61, 32, 34]⟩ = [32, 61, 32, 34] from by decide, show bl ⟨#[47]⟩ = [47] from by decide, show bl ⟨#[34]⟩ = [34] from by decide]
  simp
set_option maxHeartbeats 3200000 in
set_option maxRecDepth 100000 in
theorem plain_walk (hN : NextSays) (hA : AllSays) (hC : ChsSays) (n v b : ByteArray) (w : World) (hMx : Mx w) (hn : n.size ≤ 140737488351232) (hv : v.size ≤ 140737488351232) (hb : b.size ≤ 140737488351232) :
    Calls Tryd.prog 4 #[.string n, .string v, .string b] w fun e w' => e = .returned (.bool true) ∧ Below w.heap.size w w' := by
  have HMx := hide hMx
  clear hMx
  have HAB := hide (attrBegun_any hN hA hC)
  have HN := hide hN
  clear hN hA hC
  have z1 : (⟨#[61]⟩ : ByteArray).size = 1 := rfl
  have z2 : (⟨#[32]⟩ : ByteArray).size = 1 := rfl
  have z3 : (⟨#[61, 39]⟩ : ByteArray).size = 2 := rfl
  have z4 : (⟨#[39]⟩ : ByteArray).size = 1 := rfl
  have z5 : (⟨#[47]⟩ : ByteArray).size = 1 := rfl
  have z6 : (⟨#[32, 61, 32, 34]⟩ : ByteArray).size = 4 := rfl
  have z7 : (⟨#[34]⟩ : ByteArray).size = 1 := rfl
  go_enter Tryd.func4, Tryd.ntmps4
  go_wp2_with fail
  refine (unhide HAB _ (by first | exact unhide HMx | exact (unhide HMx).below (unhide (by assumption)) | exact (unhide HMx).below (bstep (unhide (by assumption)) (balloc _ _)))).mono ?_
  rintro e w1 ⟨rfl, hb1⟩
  have HB1 := hide hb1
  clear hb1 HAB
  go_wp2_with fail
  refine (plainly_any n _ (by unfold maxLen; omega)).mono ?_
  rintro e w2 ⟨rfl, hw⟩
  replace hw := hw.symm
  subst hw
  cases hp : plain n
  · go_wp2_with fail
    go_ret
    exact ⟨rfl, unhide HB1⟩
  · go_wp2_with fail
    refine (plainly_any v _ (by unfold maxLen; omega)).mono ?_
    rintro e w2 ⟨rfl, hw⟩
    replace hw := hw.symm
    subst hw
    cases hq : plain v
    · go_wp2_with fail
      go_ret
      exact ⟨rfl, unhide HB1⟩
    · by_cases hg : n.size + v.size + b.size ≤ 2991
      · have r0 := (fun w => unhide HN (n ++ ⟨#[61]⟩ ++ v ++ ⟨#[32]⟩ ++ b) 0 w (by omega) (by simp; omega))
        have r1 := (fun w => unhide HN (⟨#[32]⟩ ++ n ++ ⟨#[61, 39]⟩ ++ v ++ ⟨#[39]⟩ ++ b) 0 w (by omega) (by simp; omega))
        have r2 := (fun w => unhide HN (⟨#[47]⟩ ++ n ++ ⟨#[32, 61, 32, 34]⟩ ++ v ++ ⟨#[34]⟩ ++ b) 0 w (by omega) (by simp; omega))
        rw [plain_0 hp hq] at r0
        rw [plain_1 hp hq] at r1
        rw [plain_2 hp hq] at r2
        simp only [str_bl, show ((0 : Nat) : Int) = 0 from rfl] at r0 r1 r2
        clear HN hp hq
        go_wp2_with fail
        refine wp_loop_rounds 4 ?_
        rw [rounds_succ]
        go_wp2_with fail
        refine (r0 _).mono ?_
        rintro e u1 ⟨rfl, hb⟩
        have hs := hb.size
        simp at hs
        have hl1 : w1.heap.size < u1.heap.size := by omega
        have c0 : u1.cell? ⟨w1.heap.size, 0, none⟩ = some (.string (n ++ ⟨#[61]⟩ ++ v ++ ⟨#[32]⟩)) := by rw [hb.cell (p := ⟨w1.heap.size, 0, none⟩) (by simp)]; simp
        have c1 : u1.cell? ⟨w1.heap.size, 1, none⟩ = some (.string (⟨#[32]⟩ ++ n ++ ⟨#[61, 39]⟩ ++ v ++ ⟨#[39]⟩)) := by rw [hb.cell (p := ⟨w1.heap.size, 1, none⟩) (by simp)]; simp
        have c2 : u1.cell? ⟨w1.heap.size, 2, none⟩ = some (.string (⟨#[47]⟩ ++ n ++ ⟨#[32, 61, 32, 34]⟩ ++ v ++ ⟨#[34]⟩)) := by rw [hb.cell (p := ⟨w1.heap.size, 2, none⟩) (by simp)]; simp
        have HB' := hide (bstep (bstep (bstep (unhide HB1) (balloc _ _)) hb) (balloc _ (.cells #[.string n, .string v] 23)))
        have d0 : (u1.alloc (.cells #[.string n, .string v] 23)).cell? ⟨w1.heap.size, 0, none⟩ = some (.string (n ++ ⟨#[61]⟩ ++ v ++ ⟨#[32]⟩)) := (World.cell?_alloc_lt _ _ _ hl1).trans c0
        have d1 : (u1.alloc (.cells #[.string n, .string v] 23)).cell? ⟨w1.heap.size, 1, none⟩ = some (.string (⟨#[32]⟩ ++ n ++ ⟨#[61, 39]⟩ ++ v ++ ⟨#[39]⟩)) := (World.cell?_alloc_lt _ _ _ hl1).trans c1
        have d2 : (u1.alloc (.cells #[.string n, .string v] 23)).cell? ⟨w1.heap.size, 2, none⟩ = some (.string (⟨#[47]⟩ ++ n ++ ⟨#[32, 61, 32, 34]⟩ ++ v ++ ⟨#[34]⟩)) := (World.cell?_alloc_lt _ _ _ hl1).trans c2
        clear hb r0 HB1 c0 c1 c2
        go_wp2_with fail
        have hv1 : w1.heap.size < (u1.alloc (.cells #[.string n, .string v] 23)).heap.size := by simp; omega
        generalize u1.alloc (.cells #[.string n, .string v] 23) = V1 at *
        clear hs hl1 d0
        have HB := HB'
        clear HB'
        rw [rounds_succ]
        go_wp2_with fail
        refine (r1 _).mono ?_
        rintro e u2 ⟨rfl, hb⟩
        have hs := hb.size
        have hl2 : w1.heap.size < u2.heap.size := by omega
        have c1 : u2.cell? ⟨w1.heap.size, 1, none⟩ = some (.string (⟨#[32]⟩ ++ n ++ ⟨#[61, 39]⟩ ++ v ++ ⟨#[39]⟩)) := (hb.cell (p := ⟨w1.heap.size, 1, none⟩) hv1).trans d1
        have c2 : u2.cell? ⟨w1.heap.size, 2, none⟩ = some (.string (⟨#[47]⟩ ++ n ++ ⟨#[32, 61, 32, 34]⟩ ++ v ++ ⟨#[34]⟩)) := (hb.cell (p := ⟨w1.heap.size, 2, none⟩) hv1).trans d2
        have HB' := hide (bstep (bstep (unhide HB) hb) (balloc _ (.cells #[.string n, .string v] 23)))
        have d1 : (u2.alloc (.cells #[.string n, .string v] 23)).cell? ⟨w1.heap.size, 1, none⟩ = some (.string (⟨#[32]⟩ ++ n ++ ⟨#[61, 39]⟩ ++ v ++ ⟨#[39]⟩)) := (World.cell?_alloc_lt _ _ _ hl2).trans c1
        have d2 : (u2.alloc (.cells #[.string n, .string v] 23)).cell? ⟨w1.heap.size, 2, none⟩ = some (.string (⟨#[47]⟩ ++ n ++ ⟨#[32, 61, 32, 34]⟩ ++ v ++ ⟨#[34]⟩)) := (World.cell?_alloc_lt _ _ _ hl2).trans c2
        clear hb r1 HB c1 c2
        go_wp2_with fail
        have hv2 : w1.heap.size < (u2.alloc (.cells #[.string n, .string v] 23)).heap.size := by simp; omega
        generalize u2.alloc (.cells #[.string n, .string v] 23) = V2 at *
        clear hs hl2 d1
        have HB := HB'
        clear HB'
        rw [rounds_succ]
        go_wp2_with fail
        refine (r2 _).mono ?_
        rintro e u3 ⟨rfl, hb⟩
        have hs := hb.size
        have hl3 : w1.heap.size < u3.heap.size := by omega
        have c2 : u3.cell? ⟨w1.heap.size, 2, none⟩ = some (.string (⟨#[47]⟩ ++ n ++ ⟨#[32, 61, 32, 34]⟩ ++ v ++ ⟨#[34]⟩)) := (hb.cell (p := ⟨w1.heap.size, 2, none⟩) hv2).trans d2
        have HB' := hide (bstep (bstep (unhide HB) hb) (balloc _ (.cells #[.string n, .string v] 23)))
        have d2 : (u3.alloc (.cells #[.string n, .string v] 23)).cell? ⟨w1.heap.size, 2, none⟩ = some (.string (⟨#[47]⟩ ++ n ++ ⟨#[32, 61, 32, 34]⟩ ++ v ++ ⟨#[34]⟩)) := (World.cell?_alloc_lt _ _ _ hl3).trans c2
        clear hb r2 HB c2
        go_wp2_with fail
        have hv3 : w1.heap.size < (u3.alloc (.cells #[.string n, .string v] 23)).heap.size := by simp; omega
        generalize u3.alloc (.cells #[.string n, .string v] 23) = V3 at *
        rw [rounds_succ]
        go_wp2_with fail
        go_ret
        exact ⟨rfl, unhide HB'⟩
      · go_wp2_with fail
        go_ret
        exact ⟨rfl, unhide HB1⟩
end Go.Proofs.YthhjfedegbldfaeDoor
