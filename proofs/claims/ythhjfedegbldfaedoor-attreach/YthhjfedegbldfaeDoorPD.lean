/- The contracts of attr.check, attr.fold, attr.next and attr.Next: the attribute from a place on; nothing that was there is written. Condition: at most 3000 bytes, the place within them; else the error. -/
import Derived.Test.YthhjfedegbldfaeDoorPC
import Derived.Test.YthhjfedegbldfaeDoorLO
namespace Go.Proofs.YthhjfedegbldfaeDoor
open Go.RowKit
set_option linter.unusedVariables false

/-- The error that a place or a long text gives, or 0. -/
def badE (s : ByteArray) (k : Int) : Int := if 3000 < s.size then 2 else if k < 0 ∨ (s.size : Int) < k then 3 else 0
theorem badE_no {s : ByteArray} {k : Nat} (hk : k ≤ s.size) (hs : s.size ≤ 3000) : badE s (k : Int) = 0 := by unfold badE; rw [if_neg (by omega), if_neg (by omega)]
set_option maxHeartbeats 400000 in
set_option maxRecDepth 100000 in
theorem check_any (s : ByteArray) (k : Int) (w : World) (hs : s.size ≤ maxLen) :
    Calls Tryd.prog 25 #[.string s, .int .i64 k] w fun e w' => e = .returned (.int .i64 (badE s k)) ∧ w' = w := by
  unfold maxLen at hs
  by_cases h1 : 3000 < s.size
  · have HE : Hid (badE s k = 2) := hide (by unfold badE; rw [if_pos h1])
    go_enter Tryd.func25, Tryd.ntmps25
    go_wp2_with fail
    go_ret
    exact ⟨ret_int (unhide HE).symm, rfl⟩
  · by_cases h2 : k < 0
    · have HE : Hid (badE s k = 3) := hide (by unfold badE; rw [if_neg h1, if_pos (.inl h2)])
      go_enter Tryd.func25, Tryd.ntmps25
      go_wp2_with fail
      go_ret
      exact ⟨ret_int (unhide HE).symm, rfl⟩
    · by_cases h3 : (s.size : Int) < k
      · have HE : Hid (badE s k = 3) := hide (by unfold badE; rw [if_neg h1, if_pos (.inr h3)])
        go_enter Tryd.func25, Tryd.ntmps25
        go_wp2_with fail
        go_ret
        exact ⟨ret_int (unhide HE).symm, rfl⟩
      · have HE : Hid (badE s k = 0) := hide (by unfold badE; rw [if_neg h1, if_neg (by omega)])
        go_enter Tryd.func25, Tryd.ntmps25
        go_wp2_with fail
        go_ret
        exact ⟨ret_int (unhide HE).symm, rfl⟩
set_option maxHeartbeats 400000 in
set_option maxRecDepth 100000 in
theorem afold_any (s : ByteArray) (w : World) (hs : s.size ≤ 3000) :
    Calls Tryd.prog 52 #[.string s] w fun e w' => e = .returned (.string (strOfNums (fdI (bl s)))) ∧ Below w.heap.size w w' := by
  have HC := hide (fun w => Fold_ok s w hs)
  generalize strOfNums (fdI (bl s)) = r at HC ⊢
  go_enter Tryd.func52, Tryd.ntmps52
  go_wp2_with fail
  refine (unhide HC _).mono ?_
  rintro e w1 ⟨rfl, hb⟩
  have HB := hide hb
  clear hb
  go_wp2_with fail
  go_ret
  exact ⟨rfl, unhide HB⟩

set_option maxHeartbeats 3200000 in
set_option maxRecDepth 100000 in
theorem next_any (s : ByteArray) (k : Nat) (w : World) (hk : k ≤ s.size) (hs : s.size ≤ 3000) :
    Calls Tryd.prog 26 #[.string s, .int .i64 (k : Int)] w fun e w' => e = .returned (.tuple #[.agg #[.string (strOfNums (attrI (bl s) k).1.1), .string (strOfNums (attrI (bl s) k).1.2)], .int .i64 ((attrI (bl s) k).2.1 : Int), .bool (attrI (bl s) k).2.2]) ∧ Below w.heap.size w w' := by
  have hl := hide (bl_len s)
  have h0 := run_le pAhead (bl s) (i := k) (by rw [unhide hl]; exact hk)
  rw [unhide hl] at h0
  have HW0 := hide (fun w => wAhead s k w hk hs)
  obtain ⟨a, HA⟩ : ∃ a, Hid (run pAhead (bl s) k = a) := ⟨_, hide rfl⟩
  rw [unhide HA] at h0 HW0
  go_enter Tryd.func26, Tryd.ntmps26
  go_wp2_with fail
  refine (unhide HW0 _).mono ?_
  rintro e w1 ⟨rfl, hw⟩
  replace hw := hw.symm
  subst hw
  by_cases hlt : a < s.size
  · have hne : ((a : Int) == (s.size : Int)) = false := by simp; omega
    have hcb := u8_lt s hlt
    have HG := hide (bl_at hlt)
    by_cases h62 : (s[a].toNat : Int) = 62
    · have e62 : ((s[a].toNat : Int) == 62) = true := beq_iff_eq.2 h62
      have HRes := hide (attrI_1 (unhide HA) (.inr ((unhide HG).trans h62)))
      clear h62
      go_wp2_with fail
      refine bodyPost_ret (v := .tuple #[.agg #[.string ⟨#[]⟩, .string ⟨#[]⟩], .int .i64 (a : Int), .bool false]) (by simp [results, Tryd.results26, go_sem]) rfl ⟨?_, ?_⟩
      · rw [unhide HRes]; rfl
      · exact balloc _ _
    · have e62 : ((s[a].toNat : Int) == 62) = false := beq_eq_false_iff_ne.2 h62
      have HN : Hid (¬ ((bl s).length ≤ a ∨ (bl s).getD a 0 = 62)) := hide (by rw [unhide hl, unhide HG]; omega)
      clear h62
      have h1 := run_le pName (bl s) (i := a + 1) (by rw [unhide hl]; omega)
      rw [unhide hl] at h1
      have g1 := run_ge pName (bl s) (a + 1)
      have HW1 := hide (fun w => wName s (a + 1) w (by omega) hs)
      rw [show ((a + 1 : Nat) : Int) = (a : Int) + 1 from by omega] at HW1
      obtain ⟨b, HB⟩ : ∃ b, Hid (run pName (bl s) (a + 1) = b) := ⟨_, hide rfl⟩
      rw [unhide HB] at h1 g1 HW1
      have HV := hide (fun w => value_any s b w h1 hs)
      have HRes := hide (attrI_val (unhide HA) (unhide HN) (unhide HB))
      have hvl := valI_le (l := bl s) (a := b) (by rw [unhide hl]; exact h1)
      rw [unhide hl] at hvl
      have HVB : Hid (Byt (valI (bl s) b).1) := hide (valI_byt (bl_byt s) b)
      obtain ⟨v1, v2, v3, Hv⟩ : ∃ v1 v2 v3, Hid (valI (bl s) b = (v1, v2, v3)) := ⟨_, _, _, hide rfl⟩
      rw [unhide Hv] at HV HRes hvl HVB
      simp only at HV HRes hvl HVB
      go_wp2_with fail
      refine (unhide HW1 _).mono ?_
      rintro e w1 ⟨rfl, hw⟩
      replace hw := hw.symm
      subst hw
      go_wp2_with fail
      refine (unhide HV _).mono ?_
      rintro e w1 ⟨rfl, hb1⟩
      have hz1 := hb1.size
      simp at hz1
      have r0 : w1.cell? ⟨w.heap.size, 0, none⟩ = some (.string ⟨#[]⟩) := by rw [hb1.cell (p := ⟨w.heap.size, 0, none⟩) (by simp)]; simp
      have r1 : w1.cell? ⟨w.heap.size, 1, none⟩ = some (.string ⟨#[]⟩) := by rw [hb1.cell (p := ⟨w.heap.size, 1, none⟩) (by simp)]; simp
      have q0 : w1.frozen? ⟨w.heap.size, 0, none⟩ = false := by rw [hb1.frozen (p := ⟨w.heap.size, 0, none⟩) (by simp)]; simp
      have q1 : w1.frozen? ⟨w.heap.size, 1, none⟩ = false := by rw [hb1.frozen (p := ⟨w.heap.size, 1, none⟩) (by simp)]; simp
      have HB1 := hide (bstep (balloc _ _) hb1)
      clear hb1 HV HW1
      cases v3
      · have HRes' := hide ((unhide HRes).trans (if_neg (by simp)))
        have hzz : w.heap.size < w1.heap.size := by omega
        clear HRes
        go_wp2_with fail
        refine bodyPost_ret (v := .tuple #[.agg #[.string ⟨#[]⟩, .string ⟨#[]⟩], .int .i64 (v2 : Int), .bool false]) (by simp [results, Tryd.results26, go_sem, r0, r1]) rfl ⟨?_, ?_⟩
        · rw [unhide HRes']; rfl
        · exact ((unhide HB1).setCell (Nat.le_refl _) _).setCell (Nat.le_refl _) _
      · have HRes' := hide ((unhide HRes).trans (if_pos rfl))
        have HF1 := hide (fun w => afold_any (s.extract a b) w (by rw [← bl_len, bl_cut, cut_len (by rw [unhide hl]; exact h1)]; omega))
        rw [bl_cut] at HF1
        have HF2 := hide (fun w => afold_any (strOfNums v1) w (by rw [strOfNums_size]; omega))
        rw [bl_str _ (unhide HVB)] at HF2
        clear HRes HVB
        have hsl : ∀ wx, (Instr.slice 9 (.string s) (some (.int .i64 (a : Int))) (some (.int .i64 (b : Int))) none).run Tryd.prog wx = .ok (.string (s.extract a b)) wx := fun wx => by
          have := run_slice_string (P := Tryd.prog) wx 9 s .i64 .i64 (a : Int) (b : Int) Tryd.underlying9 (by omega) (by omega) (by omega)
          rw [this]
          simp
        go_wp2_with fail
        refine (unhide HF1 _).mono ?_
        rintro e w2 ⟨rfl, hb2⟩
        have hz2 := hb2.size
        replace r0 := (hb2.cell (p := ⟨w.heap.size, 0, none⟩) (by simp; omega)).trans r0
        replace r1 := (hb2.cell (p := ⟨w.heap.size, 1, none⟩) (by simp; omega)).trans r1
        replace q0 := (hb2.frozen (p := ⟨w.heap.size, 0, none⟩) (by simp; omega)).trans q0
        replace q1 := (hb2.frozen (p := ⟨w.heap.size, 1, none⟩) (by simp; omega)).trans q1
        have HB2 := hide (bstep (unhide HB1) hb2)
        clear hb2
        go_wp2_with fail
        refine (unhide HF2 _).mono ?_
        rintro e w3 ⟨rfl, hb3⟩
        have hz3 := hb3.size
        replace r0 := (hb3.cell (p := ⟨w.heap.size, 0, none⟩) (by simp; omega)).trans r0
        replace r1 := (hb3.cell (p := ⟨w.heap.size, 1, none⟩) (by simp; omega)).trans r1
        replace q0 := (hb3.frozen (p := ⟨w.heap.size, 0, none⟩) (by simp; omega)).trans q0
        replace q1 := (hb3.frozen (p := ⟨w.heap.size, 1, none⟩) (by simp; omega)).trans q1
        have HB3 := hide (bstep (unhide HB2) hb3)
        have hzz : w.heap.size < w3.heap.size := by omega
        clear hb3
        go_wp2_with fail
        refine bodyPost_ret (v := .tuple #[.agg #[.string (strOfNums (fdI (cut (bl s) a b))), .string (strOfNums (fdI v1))], .int .i64 (v2 : Int), .bool true]) (by simp [results, Tryd.results26, go_sem, r0, r1]) rfl ⟨?_, ?_⟩
        · rw [unhide HRes']
        · exact ((unhide HB3).setCell (Nat.le_refl _) _).setCell (Nat.le_refl _) _
  · have he : ((a : Int) == (s.size : Int)) = true := by simp; omega
    have HRes := hide (attrI_1 (unhide HA) (.inl (by rw [unhide hl]; omega)))
    go_wp2_with fail
    refine bodyPost_ret (v := .tuple #[.agg #[.string ⟨#[]⟩, .string ⟨#[]⟩], .int .i64 (a : Int), .bool false]) (by simp [results, Tryd.results26, go_sem]) rfl ⟨?_, ?_⟩
    · rw [unhide HRes]; rfl
    · exact balloc _ _

theorem cells_two {w : World} {b : Nat} {o : Obj} {x0 x1 : Value} (h0 : w.cell? ⟨b, 0, none⟩ = some x0) (h1 : w.cell? ⟨b, 1, none⟩ = some x1) (u v : Value) :
    (((w.setCell ⟨b, 0, none⟩ u).setCell ⟨b, 1, none⟩ v).alloc o).cell? ⟨b, 0, none⟩ = some u ∧ (((w.setCell ⟨b, 0, none⟩ u).setCell ⟨b, 1, none⟩ v).alloc o).cell? ⟨b, 1, none⟩ = some v := by
  have hb : b < w.heap.size := World.block_lt_of_cell? w _ h0
  have h1' : (w.setCell ⟨b, 0, none⟩ u).cell? ⟨b, 1, none⟩ = some x1 := by rw [World.cell?_setCell_other _ _ _ _ (by simp)]; exact h1
  refine ⟨?_, ?_⟩
  · rw [World.cell?_alloc_lt _ _ _ (by simpa [World.setCell] using hb), World.cell?_setCell_other _ _ _ _ (by simp), World.cell?_setCell_same _ _ _ h0]
  · rw [World.cell?_alloc_lt _ _ _ (by simpa [World.setCell] using hb), World.cell?_setCell_same _ _ _ h1']
set_option maxHeartbeats 1600000 in
set_option maxRecDepth 100000 in
theorem Next_ok (s : ByteArray) (k : Nat) (w : World) (hk : k ≤ s.size) (hs : s.size ≤ 3000) :
    Calls Tryd.prog 8 #[.string s, .int .i64 (k : Int)] w fun e w' => e = .returned (.tuple #[.agg #[.string (strOfNums (attrI (bl s) k).1.1), .string (strOfNums (attrI (bl s) k).1.2)], .int .i64 ((attrI (bl s) k).2.1 : Int), .bool (attrI (bl s) k).2.2, .int .i64 0]) ∧ Below w.heap.size w w' := by
  have HC := hide (fun w => check_any s (k : Int) w (by unfold maxLen; omega))
  rw [badE_no hk hs] at HC
  have HN := hide (fun w => next_any s k w hk hs)
  obtain ⟨x1, x2, a, q, Hv⟩ : ∃ x1 x2 a q, Hid (attrI (bl s) k = ((x1, x2), a, q)) := ⟨_, _, _, _, hide rfl⟩
  rw [unhide Hv] at HN
  simp only at HN
  go_enter Tryd.func8, Tryd.ntmps8
  go_wp2_with fail
  refine (unhide HC _).mono ?_
  rintro e w1 ⟨rfl, hw⟩
  replace hw := hw.symm
  subst hw
  go_wp2_with fail
  refine (unhide HN _).mono ?_
  rintro e w1 ⟨rfl, hb1⟩
  have hz1 := hb1.size
  simp at hz1
  have r0 : w1.cell? ⟨w.heap.size, 0, none⟩ = some (.string ⟨#[]⟩) := by rw [hb1.cell (p := ⟨w.heap.size, 0, none⟩) (by simp)]; simp
  have r1 : w1.cell? ⟨w.heap.size, 1, none⟩ = some (.string ⟨#[]⟩) := by rw [hb1.cell (p := ⟨w.heap.size, 1, none⟩) (by simp)]; simp
  have q0 : w1.frozen? ⟨w.heap.size, 0, none⟩ = false := by rw [hb1.frozen (p := ⟨w.heap.size, 0, none⟩) (by simp)]; simp
  have q1 : w1.frozen? ⟨w.heap.size, 1, none⟩ = false := by rw [hb1.frozen (p := ⟨w.heap.size, 1, none⟩) (by simp)]; simp
  have HB1 := hide (bstep (balloc _ _) hb1)
  have hzz : w.heap.size < w1.heap.size := by omega
  clear hb1 HC HN
  go_wp2_with fail
  have c0 := cells_two (o := .cells #[.string (strOfNums x1), .string (strOfNums x2)] 23) r0 r1 (.string (strOfNums x1)) (.string (strOfNums x2))
  refine bodyPost_ret (v := .tuple #[.agg #[.string (strOfNums x1), .string (strOfNums x2)], .int .i64 (a : Int), .bool q, .int .i64 0]) (by simp [results, Tryd.results8, go_sem, c0.1, c0.2]) rfl ⟨?_, ?_⟩
  · rw [unhide Hv]
  · exact (((unhide HB1).setCell (Nat.le_refl _) _).setCell (Nat.le_refl _) _).alloc (by simp [World.setCell]; omega) _
set_option maxHeartbeats 1600000 in
set_option maxRecDepth 100000 in
theorem Next_bad (s : ByteArray) (k : Int) (w : World) (hs : s.size ≤ maxLen) (hE : badE s k ≠ 0) :
    Calls Tryd.prog 8 #[.string s, .int .i64 k] w fun e w' => e = .returned (.tuple #[.agg #[.string ⟨#[]⟩, .string ⟨#[]⟩], .int .i64 0, .bool false, .int .i64 (badE s k)]) ∧ Below w.heap.size w w' := by
  have HC := hide (fun w => check_any s k w hs)
  obtain ⟨b, Hb⟩ : ∃ b, Hid (badE s k = b) := ⟨_, hide rfl⟩
  rw [unhide Hb] at HC hE
  have hne : (b != 0) = true := bne_iff_ne.2 hE
  clear hE
  go_enter Tryd.func8, Tryd.ntmps8
  go_wp2_with fail
  refine (unhide HC _).mono ?_
  rintro e w1 ⟨rfl, hw⟩
  replace hw := hw.symm
  subst hw
  go_wp2_with fail
  refine bodyPost_ret (v := .tuple #[.agg #[.string ⟨#[]⟩, .string ⟨#[]⟩], .int .i64 0, .bool false, .int .i64 b]) (by simp [results, Tryd.results8, go_sem]) rfl ⟨?_, ?_⟩
  · rw [unhide Hb]
  · exact balloc _ _
end Go.Proofs.YthhjfedegbldfaeDoor
