/- The contracts of the reference's FindOf, IsEncoding and NameOf: each returns what the plain function of its name computes; nothing that was there is written. Condition: at most 3000 bytes; of NameOf that there is such an encoding. -/
import Derived.Test.YthhjfedegbldfaaDoorG
namespace Go.Proofs.YthhjfedegbldfaaDoor
open Go.RowKit
set_option linter.unusedVariables false

theorem ftrOf_any (s : ByteArray) (w : World) (hs : s.size ≤ 3000) :
    Calls Tryd.prog 10 #[.string (strOfNums (trI (bl s)))] w fun e w' => e = .returned (.string (strOfNums (fdI (trI (bl s))))) ∧ Below w.heap.size w w' := by
  have := foldOf_any (strOfNums (trI (bl s))) w (tr_size s hs)
  rw [bl_str _ (tr_byt (bl_byt s))] at this
  exact this

set_option maxHeartbeats 1000000 in
set_option maxRecDepth 100000 in
theorem findOf_any (s : ByteArray) (w : World) (hs : s.size ≤ 3000) :
    Calls Tryd.prog 11 #[.string s] w fun e w' => e = .returned (.int .i64 (findI s)) ∧ Below w.heap.size w w' := by
  have HT := hide (fun w => trimOf_any s w hs)
  have HF := hide (fun w => ftrOf_any s w hs)
  unfold findI
  generalize strOfNums (fdI (trI (bl s))) = n at *
  generalize strOfNums (trI (bl s)) = t at *
  go_enter Tryd.func11, Tryd.ntmps11
  go_wp2_with fail
  refine (unhide HT _).mono ?_
  rintro e w1 ⟨rfl, hw⟩
  replace hw := hw.symm
  subst hw
  go_wp2_with fail
  refine (unhide HF _).mono ?_
  rintro e w2 ⟨rfl, hb2⟩
  go_wp2_with fail
  refine (Labels_any _).mono ?_
  rintro e w3 ⟨rfl, hw⟩
  have hT : Tab w3 w2.heap.size labs := by rw [hw]; exact Tab.new _ _ _
  have hb3 : Below w2.heap.size w2 w3 := by rw [hw]; exact balloc _ _
  clear hw HT HF
  have HT := hide hT
  have HB := hide (bstep hb2 hb3)
  clear hT hb2 hb3
  obtain ⟨l, Hl⟩ : ∃ l, Hid (labs = l) := ⟨labs, rfl⟩
  have hlen : l.length = 22 := by rw [← unhide Hl]; rfl
  rw [unhide Hl] at HT
  go_wp2_with fail
  go_loop [4] (fun i => ∃ k : Nat, k ≤ l.length ∧ i = .int .i64 k ∧ Hid (lk labs n = lk (l.drop k) n)) (fun i => l.length - (intOf i).toNat)
  case atStart => exact ⟨0, by omega, rfl, by rw [unhide Hl]; exact rfl⟩
  case round =>
    obtain ⟨k, hk, rfl, HL⟩ := hrel
    by_cases hlt : k < l.length
    · obtain ⟨c1, c2⟩ := unhide HT k hlt
      have HD : Hid (lk (l.drop k) n = if (l[k].1 == n) then l[k].2 else lk (l.drop (k + 1)) n) := by
        show _ = _
        rw [List.drop_eq_getElem_cons hlt]; rfl
      obtain ⟨la, HA⟩ : ∃ la, Hid (l[k].1 = la) := ⟨l[k].1, rfl⟩
      obtain ⟨lb, HB'⟩ : ∃ lb, Hid (l[k].2 = lb) := ⟨l[k].2, rfl⟩
      rw [unhide HA] at c1 HD
      rw [unhide HB'] at c2 HD
      have hk22 : k < 22 := by omega
      have HQ0 := hide (beq_toListBytes la n)
      obtain ⟨q, HQ⟩ : ∃ q, Hid ((la == n) = q) := ⟨(la == n), rfl⟩
      have hq : (la.toList == n.toList) = q := by rw [← unhide HQ0]; exact unhide HQ
      rw [unhide HQ] at HD
      cases q
      · have HL' : Hid (lk labs n = lk (l.drop (k + 1)) n) := by
          show _ = _
          rw [unhide HL, unhide HD]; simp
        clear HD
        go_wp2_with fail
        go_round
        case rel => exact ⟨k + 1, by omega, by go_num, HL'⟩
        case measure => simp [intOf]; omega
      · have HL' : Hid (lk labs n = lb) := by
          show _ = _
          rw [unhide HL, unhide HD]; simp
        clear HD
        go_wp2_with fail
        go_ret
        exact ⟨by rw [unhide HL']; rfl, unhide HB⟩
    · have ek : k = l.length := by omega
      have HL' : Hid (lk labs n = 0) := by
        show _ = _
        rw [unhide HL, ek, List.drop_length]; rfl
      have hk22 : ¬ k < 22 := by omega
      go_wp2_with fail
      go_ret
      exact ⟨by rw [unhide HL']; rfl, unhide HB⟩

set_option maxHeartbeats 400000 in
set_option maxRecDepth 100000 in
theorem isEncoding_any (n : Int) (w : World) : Calls Tryd.prog 12 #[.int .i64 n] w fun e w' => e = .returned (.bool (decide (1 ≤ n ∧ n ≤ 7))) ∧ w' = w := by
  have HE : Hid ((decide (1 ≤ n) && decide (n ≤ 7)) = decide (1 ≤ n ∧ n ≤ 7)) := by show _ = _; simp
  obtain ⟨q, HQ⟩ : ∃ q, Hid (decide (1 ≤ n ∧ n ≤ 7) = q) := ⟨_, rfl⟩
  rw [unhide HQ] at HE ⊢
  go_enter Tryd.func12, Tryd.ntmps12
  go_wp2_with fail
  refine (between_any _ _ _ _).mono ?_
  rintro e w1 ⟨rfl, hw⟩
  replace hw := hw.symm
  subst hw
  rw [unhide HE]
  go_wp2_with fail
  go_ret
  exact ⟨rfl, rfl⟩

set_option maxHeartbeats 1000000 in
set_option maxRecDepth 100000 in
theorem nameOf_any (n : Int) (w : World) (h : 1 ≤ n ∧ n ≤ 7) : Calls Tryd.prog 13 #[.int .i64 n] w fun e w' => e = .returned (.string (nameI n)) ∧ w' = w := by
  have e1 : nameI 1 = ⟨#[117, 116, 102, 45, 56]⟩ := by decide +kernel
  have e2 : nameI 2 = ⟨#[117, 116, 102, 45, 49, 54, 108, 101]⟩ := by decide +kernel
  have e3 : nameI 3 = ⟨#[117, 116, 102, 45, 49, 54, 98, 101]⟩ := by decide +kernel
  have e4 : nameI 4 = ⟨#[119, 105, 110, 100, 111, 119, 115, 45, 49, 50, 53, 50]⟩ := by decide +kernel
  have e5 : nameI 5 = ⟨#[120, 45, 117, 115, 101, 114, 45, 100, 101, 102, 105, 110, 101, 100]⟩ := by decide +kernel
  have e6 : nameI 6 = ⟨#[105, 115, 111, 45, 50, 48, 50, 50, 45, 106, 112]⟩ := by decide +kernel
  have e7 : nameI 7 = ⟨#[114, 101, 112, 108, 97, 99, 101, 109, 101, 110, 116]⟩ := by decide +kernel
  rcases (show n = 1 ∨ n = 2 ∨ n = 3 ∨ n = 4 ∨ n = 5 ∨ n = 6 ∨ n = 7 from by omega) with rfl | rfl | rfl | rfl | rfl | rfl | rfl
  · rw [e1]; clear e1 e2 e3 e4 e5 e6 e7 h
    go_enter Tryd.func13, Tryd.ntmps13; go_wp2; go_ret; exact ⟨rfl, rfl⟩
  · rw [e2]; clear e1 e2 e3 e4 e5 e6 e7 h
    go_enter Tryd.func13, Tryd.ntmps13; go_wp2; go_ret; exact ⟨rfl, rfl⟩
  · rw [e3]; clear e1 e2 e3 e4 e5 e6 e7 h
    go_enter Tryd.func13, Tryd.ntmps13; go_wp2; go_ret; exact ⟨rfl, rfl⟩
  · rw [e4]; clear e1 e2 e3 e4 e5 e6 e7 h
    go_enter Tryd.func13, Tryd.ntmps13; go_wp2; go_ret; exact ⟨rfl, rfl⟩
  · rw [e5]; clear e1 e2 e3 e4 e5 e6 e7 h
    go_enter Tryd.func13, Tryd.ntmps13; go_wp2; go_ret; exact ⟨rfl, rfl⟩
  · rw [e6]; clear e1 e2 e3 e4 e5 e6 e7 h
    go_enter Tryd.func13, Tryd.ntmps13; go_wp2; go_ret; exact ⟨rfl, rfl⟩
  · rw [e7]; clear e1 e2 e3 e4 e5 e6 e7 h
    go_enter Tryd.func13, Tryd.ntmps13; go_wp2; go_ret; exact ⟨rfl, rfl⟩
end Go.Proofs.YthhjfedegbldfaaDoor
