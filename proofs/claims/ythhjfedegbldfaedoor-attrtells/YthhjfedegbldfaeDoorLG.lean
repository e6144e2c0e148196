/- The contract of label.Find: the encoding whose label a text is; nothing that was there is written. Condition: at most 3000 bytes, else ErrMany. -/
import Derived.Test.YthhjfedegbldfaeDoorLF
import Derived.Test.YthhjfedegbldfaeDoorLT
namespace Go.Proofs.YthhjfedegbldfaeDoor
open Go.RowKit
set_option linter.unusedVariables false

set_option maxHeartbeats 400000 in
set_option maxRecDepth 100000 in
theorem isName_any (a n : ByteArray) (m : Int) (B : Nat) (w : World) (hc : w.cell? ⟨B, 0, none⟩ = some (.string n)) :
    Calls Tryd.prog 41 #[.agg #[.string a, .int .i64 m], .pointer (some ⟨B, 0, none⟩)] w fun e w' => e = .returned (.bool (a == n)) ∧ Below w.heap.size w w' := by
  have hl := World.block_lt_of_cell? w _ hc
  simp only at hl
  have hbq := hide (beq_toListBytes a n)
  go_enter Tryd.func41, Tryd.ntmps41
  go_wp2
  go_ret
  exact ⟨by rw [unhide hbq]; rfl, balloc _ _⟩

set_option maxHeartbeats 1000000 in
set_option maxRecDepth 100000 in
theorem first_name (l : List (ByteArray × Int)) (n : ByteArray) (b B cap : Nat) (w : World) (hl : l.length ≤ 100) (ht : Tab w b l) (hbw : b < w.heap.size) (hc : w.cell? ⟨B, 0, none⟩ = some (.string n)) :
    Calls Tryd.prog 39 #[.slice (some ⟨b, 0, none⟩) l.length cap, .func (Fn.func 41) #[] #[.pointer (some ⟨B, 0, none⟩)]] w fun e w' =>
      ∃ x, e = .returned (.agg #[.string x, .int .i64 (lk l n)]) ∧ Below w.heap.size w w' := by
  have hB := World.block_lt_of_cell? w _ hc
  simp only at hB
  have HT := hide ht
  clear ht
  go_enter Tryd.func39, Tryd.ntmps39
  go_wp2_with fail
  go_loopw [9] (fun i wr => ∃ k : Nat, k ≤ l.length ∧ i = .int .i64 k ∧ Below (w.heap.size + 1) (w.alloc (.cells #[.string ⟨#[]⟩, .int .i64 0] 56)) wr ∧ Hid (lk l n = lk (l.drop k) n)) (fun i _ => l.length - (intOf i).toNat)
  case atStart => exact ⟨0, by omega, rfl, Below.refl _ _, rfl⟩
  case round =>
    obtain ⟨k, hk, rfl, hbr, HL⟩ := hrel
    have hsz := hbr.size
    simp at hsz
    have r0 : wr.cell? ⟨w.heap.size, 0, none⟩ = some (.string ⟨#[]⟩) := by rw [hbr.cell (p := ⟨w.heap.size, 0, none⟩) (by simp)]; simp
    have r1 : wr.cell? ⟨w.heap.size, 1, none⟩ = some (.int .i64 0) := by rw [hbr.cell (p := ⟨w.heap.size, 1, none⟩) (by simp)]; simp
    have q0 : wr.frozen? ⟨w.heap.size, 0, none⟩ = false := by rw [hbr.frozen (p := ⟨w.heap.size, 0, none⟩) (by simp)]; simp
    have q1 : wr.frozen? ⟨w.heap.size, 1, none⟩ = false := by rw [hbr.frozen (p := ⟨w.heap.size, 1, none⟩) (by simp)]; simp
    by_cases hlt : k < l.length
    · have ht := (unhide HT) k hlt
      have c1 : wr.cell? ⟨b, k * 2, none⟩ = some (.string l[k].1) := ((hbr.cell (p := ⟨b, k * 2, none⟩) (by simp; omega)).trans (World.cell?_alloc_lt _ _ _ hbw)).trans ht.1
      have c2 : wr.cell? ⟨b, k * 2 + 1, none⟩ = some (.int .i64 l[k].2) := ((hbr.cell (p := ⟨b, k * 2 + 1, none⟩) (by simp; omega)).trans (World.cell?_alloc_lt _ _ _ hbw)).trans ht.2
      have c3 : wr.cell? ⟨B, 0, none⟩ = some (.string n) := ((hbr.cell (p := ⟨B, 0, none⟩) (by simp; omega)).trans (World.cell?_alloc_lt _ _ _ hB)).trans hc
      have HD : Hid (lk (l.drop k) n = if (l[k].1 == n) then l[k].2 else lk (l.drop (k + 1)) n) := by
        show _ = _
        rw [List.drop_eq_getElem_cons hlt]; rfl
      obtain ⟨la, HA⟩ : ∃ la, Hid (l[k].1 = la) := ⟨l[k].1, rfl⟩
      obtain ⟨lb, HB⟩ : ∃ lb, Hid (l[k].2 = lb) := ⟨l[k].2, rfl⟩
      rw [unhide HA] at c1 HD
      rw [unhide HB] at c2 HD
      clear ht
      go_wp2_with fail
      refine (isName_any _ _ _ B _ (by rw [World.cell?_alloc_lt _ _ _ (by simp; omega)]; exact c3)).mono ?_
      rintro e w2 ⟨rfl, hb2⟩
      have hs2 := hb2.size
      simp at hs2
      have d0 : w2.cell? ⟨wr.heap.size, 0, none⟩ = some (.string la) := by rw [hb2.cell (p := ⟨wr.heap.size, 0, none⟩) (by simp)]; simp
      have d1 : w2.cell? ⟨wr.heap.size, 1, none⟩ = some (.int .i64 lb) := by rw [hb2.cell (p := ⟨wr.heap.size, 1, none⟩) (by simp)]; simp
      have s0 : w2.cell? ⟨w.heap.size, 0, none⟩ = some (.string ⟨#[]⟩) := by rw [hb2.cell (p := ⟨w.heap.size, 0, none⟩) (by simp; omega), World.cell?_alloc_lt _ _ _ (by simp; omega)]; exact r0
      have s1 : w2.cell? ⟨w.heap.size, 1, none⟩ = some (.int .i64 0) := by rw [hb2.cell (p := ⟨w.heap.size, 1, none⟩) (by simp; omega), World.cell?_alloc_lt _ _ _ (by simp; omega)]; exact r1
      have t0 : w2.frozen? ⟨w.heap.size, 0, none⟩ = false := by exact ((hb2.frozen (p := ⟨w.heap.size, 0, none⟩) (by simp; omega)).trans ((balloc wr _).frozen (p := ⟨w.heap.size, 0, none⟩) (by simp; omega))).trans q0
      have t1 : w2.frozen? ⟨w.heap.size, 1, none⟩ = false := by exact ((hb2.frozen (p := ⟨w.heap.size, 1, none⟩) (by simp; omega)).trans ((balloc wr _).frozen (p := ⟨w.heap.size, 1, none⟩) (by simp; omega))).trans q1
      have HR : Below (w.heap.size + 1) (w.alloc (.cells #[.string ⟨#[]⟩, .int .i64 0] 56)) w2 := (hbr.alloc (by omega) _).trans (hb2.mono (by simp; omega))
      obtain ⟨q, HQ⟩ : ∃ q, Hid ((la == n) = q) := ⟨_, rfl⟩
      rw [unhide HQ] at HD ⊢
      clear c1 c2 c3 r0 r1 q0 q1 hbr hb2
      cases q
      · have HL' : Hid (lk l n = lk (l.drop (k + 1)) n) := by
          show _ = _
          rw [unhide HL, unhide HD]; simp
        go_wp2_with fail
        go_roundw
        case rel => exact ⟨k + 1, by omega, by go_num, HR, HL'⟩
        case measure => simp [intOf]; omega
      · have HL' : Hid (lk l n = lb) := by
          show _ = _
          rw [unhide HL, unhide HD]; simp
        have hzz : w.heap.size < w2.heap.size := by omega
        go_wp2_with fail
        refine bodyPost_ret (v := .agg #[.string la, .int .i64 lb]) (by simp [results, Tryd.results39, go_sem, s0, s1]) rfl ⟨la, by rw [unhide HL'], ?_⟩
        exact ((((Below.refl w.heap.size w).alloc (Nat.le_refl _) _).trans (HR.mono (by omega))).setCell (Nat.le_refl _) _).setCell (Nat.le_refl _) _
    · have ek : k = l.length := by omega
      have HL' : Hid (lk l n = 0) := by
        show _ = _
        rw [unhide HL, ek, List.drop_length]; rfl
      have hzz : w.heap.size < wr.heap.size := by omega
      go_wp2_with fail
      refine bodyPost_ret (v := .agg #[.string ⟨#[]⟩, .int .i64 0]) (by simp [results, Tryd.results39, go_sem, r0, r1]) rfl ⟨⟨#[]⟩, by rw [unhide HL'], ?_⟩
      exact ((((Below.refl w.heap.size w).alloc (Nat.le_refl _) _).trans (hbr.mono (by omega))).setCell (Nat.le_refl _) _).setCell (Nat.le_refl _) _

theorem field_1 (x : ByteArray) (r : Int) (w : World) : Sem.run Tryd.prog (Instr.field 56 (.agg #[.string x, .int .i64 r]) 1) w = .ok (.int .i64 r) w := by
  kernel_rfl
theorem field_0 (x : ByteArray) (r : Int) (w : World) : Sem.run Tryd.prog (Instr.field 56 (.agg #[.string x, .int .i64 r]) 0) w = .ok (.string x) w := by
  kernel_rfl

theorem ftr_any (s : ByteArray) (w : World) (hs : s.size ≤ 3000) :
    Calls Tryd.prog 37 #[.string (strOfNums (trI (bl s)))] w fun e w' => e = .returned (.string (strOfNums (fdI (trI (bl s))))) ∧ Below w.heap.size w w' := by
  have := fold_any (strOfNums (trI (bl s))) w (tr_size s hs)
  rw [bl_str _ (tr_byt (bl_byt s))] at this
  exact this

set_option maxHeartbeats 1000000 in
set_option maxRecDepth 100000 in
theorem find1_any (s : ByteArray) (w : World) (hs : s.size ≤ 3000) :
    Calls Tryd.prog 36 #[.string s] w fun e w' => e = .returned (.int .i64 (findI s)) ∧ Below w.heap.size w w' := by
  have HT := hide (fun w => trim_any s w hs)
  have HF := hide (fun w => ftr_any s w hs)
  unfold findI
  generalize strOfNums (fdI (trI (bl s))) = n at *
  generalize strOfNums (trI (bl s)) = t at *
  go_enter Tryd.func36, Tryd.ntmps36
  go_wp2_with fail
  refine (unhide HT _).mono ?_
  rintro e w1 ⟨rfl, hb1⟩
  go_wp2_with fail
  refine (unhide HF _).mono ?_
  rintro e w2 ⟨rfl, hb2⟩
  go_wp2_with fail
  refine (Labels_any _).mono ?_
  rintro e w3 ⟨rfl, hw⟩
  replace hw := hw.symm
  subst hw
  have hT : Tab ((w2.alloc (.cells #[.string n] 9)).alloc (.cells (tabCells labs) 56)) (w2.heap.size + 1) labs := by
    have e : (w2.alloc (.cells #[.string n] 9)).heap.size = w2.heap.size + 1 := by simp
    rw [← e]; exact Tab.new _ _ _
  have hC : ((w2.alloc (.cells #[.string n] 9)).alloc (.cells (tabCells labs) 56)).cell? ⟨w2.heap.size, 0, none⟩ = some (.string n) := by
    rw [World.cell?_alloc_lt _ _ _ (by simp)]; simp
  have HP := hide (first_name labs n (w2.heap.size + 1) w2.heap.size 22 _ (by decide) hT (by simp) hC)
  have HB := hide (bstep (bstep (bstep hb1 hb2) (balloc _ (.cells #[.string n] 9))) (balloc _ (.cells (tabCells labs) 56)))
  rw [show labs.length = 22 from rfl] at HP
  generalize tabCells labs = tc at *
  clear hT hC hb1 hb2 HT HF
  go_wp2_with fail
  refine (unhide HP).mono ?_
  rintro e w4 ⟨x, rfl, hb4⟩
  have hf0 := @field_0
  have hf1 := @field_1
  go_wp2_with fail
  go_ret
  exact ⟨rfl, bstep (unhide HB) hb4⟩

set_option maxHeartbeats 400000 in
set_option maxRecDepth 100000 in
theorem Find_ok (s : ByteArray) (w : World) (hs : s.size ≤ 3000) :
    Calls Tryd.prog 19 #[.string s] w fun e w' => e = .returned (.tuple #[.int .i64 (findI s), .int .i64 0]) ∧ Below w.heap.size w w' := by
  have HC := hide (fun w => find1_any s w hs)
  generalize findI s = r at HC ⊢
  go_enter Tryd.func19, Tryd.ntmps19
  go_wp2_with (first | (go_at_call 36; refine (unhide HC _).mono ?_; rintro e w1 ⟨rfl, hb⟩) | go_in)
  go_ret2
  exact ⟨rfl, by assumption⟩

set_option maxHeartbeats 400000 in
set_option maxRecDepth 100000 in
theorem Find_long (s : ByteArray) (w : World) (hs : 3000 < s.size) (hm : s.size ≤ maxLen) :
    Calls Tryd.prog 19 #[.string s] w fun e w' => e = .returned (.tuple #[.int .i64 0, .int .i64 2]) ∧ w' = w := by
  unfold maxLen at hm
  go_enter Tryd.func19, Tryd.ntmps19
  go_wp2
  go_ret2
  exact ⟨rfl, rfl⟩

end Go.Proofs.YthhjfedegbldfaeDoor
