/- The contract of encoder.bytesOf: the bytes of code points that an output has; nothing that was there is written. -/
import Derived.Test.YthhjfedegbldfadDoorEC
import Derived.Test.YthhjfedegbldfadDoorSC
namespace Go.Proofs.YthhjfedegbldfadDoor
open Go.RowKit
set_option linter.unusedVariables false

set_option maxHeartbeats 400000 in
set_option maxRecDepth 100000 in
theorem bytesOfK_any (v : Value) (xs : List Int) (w : World) (hI : Ints w v xs) (hlen : xs.length ≤ 30000) (hgi : ∀ n ∈ xs, Gi n) (ha : xs.all M.anyK = true) :
    Calls Tryd.prog 53 #[.int .i64 6, v] w fun e w' => e = .returned (.string (strOfNums (M.kenc xs))) ∧ Below w.heap.size w w' := by
  have H := hide (write_any v xs w hI hlen hgi)
  rw [wrote_yes ha] at H
  obtain ⟨ao, cap, rfl, -, -, -⟩ := hI
  clear hgi ha
  go_enter Tryd.func53, Tryd.ntmps53
  go_wp2_with fail
  refine (unhide H).mono ?_
  rintro e w1 ⟨rfl, hb⟩
  have HB := hide hb
  clear hb H
  go_wp2_with fail
  go_ret
  exact ⟨rfl, unhide HB⟩

/-- What a round of bytesOf's loop knows. -/
def InO (user : Bool) (xs : List Int) (w wr : World) (k : Nat) (v : Value) : Prop :=
  wr.ownsRow w.heap.size 5 1 v (M.encS user (xs.take k)).length ((M.encS user (xs.take k)).map (Value.int .u8)) ∧ Below w.heap.size w wr

set_option maxHeartbeats 800000 in
set_option maxRecDepth 100000 in
theorem bytesOfS_any (user : Bool) (n : Int) (hn : n = if user then 5 else 4) (base : Nat) (v : Value) (xs : List Int) (w : World) (hown : w.ownsRow base 3 1 v xs.length (xs.map (Value.int .i64))) (hlen : xs.length ≤ 30000) (hwf : ∀ n ∈ xs, (Lit.int .i64 n).wf = true) (ha : xs.all (M.hasB user) = true) :
    Calls Tryd.prog 53 #[.int .i64 n, v] w fun e w' => e = .returned (.string (strOfNums (M.encS user xs))) ∧ Below w.heap.size w w' := by
  have hcl : xs.length ≠ 0 → ∃ g cap, v = .slice (some ⟨g, 0, none⟩) xs.length cap ∧ xs.length ≤ cap ∧ ∀ i, i < xs.length → w.cell? ⟨g, i, none⟩ = some (.int .i64 (xs.getD i 0)) := by
    intro h0
    rcases hown.2 with ⟨_, h⟩ | ⟨g, cap, cur, hv, _, hg, hnc, _⟩
    · exact absurd h h0
    · refine ⟨g, cap, hv, hnc, ?_⟩
      obtain ⟨ao, cap', h1, _, _, h2⟩ := Ints.of_owns hown
      rw [hv] at h1
      cases h1
      rcases h2 with rfl | ⟨b, off, h2, h3⟩
      · simp at h0
      · cases h2
        intro i hi
        have := h3 i hi
        rwa [Nat.zero_add] at this
  obtain ⟨ao, cap, rfl⟩ := owns_shape hown
  have HC := hide hcl
  have HW := hide hwf
  have HA := hide ha
  have h6 : (n == 6) = false := by subst hn; cases user <;> rfl
  have h5 : (n == 5) = user := by subst hn; cases user <;> rfl
  have HI : Hid (InO user xs w w 0 (.slice none 0 0)) := hide ⟨World.ownsRow_nil _ _ _ _, Below.refl _ _⟩
  clear hcl hwf ha hown hn
  go_enter Tryd.func53, Tryd.ntmps53
  go_wp2_with fail
  go_loopw [7, 8] (fun v i wr => ∃ k : Nat, k ≤ xs.length + 3000 ∧ i = .int .i64 k ∧ InO user xs w wr k v) (fun _ i _ => xs.length + 3000 - (intOf i).toNat)
  case atStart => exact ⟨0, by omega, rfl, unhide HI⟩
  case round =>
    obtain ⟨k, hk, rfl, hI⟩ := hrel
    clear HI
    have hz := hI.2.size
    obtain ⟨av, capv, hsh⟩ := owns_shape hI.1
    subst hsh
    by_cases hlt : k < xs.length
    · obtain ⟨g, cap', hv, hnc, hcs⟩ := unhide HC (by omega)
      cases hv
      obtain ⟨m, hm⟩ : ∃ m : Nat, m = min (k + 3000) xs.length := ⟨_, rfl⟩
      have hmin : min ((k : Int) + 3000) (xs.length : Int) = (m : Int) := by rw [hm]; omega
      have hmc : m ≤ cap := by omega
      have hkm : k ≤ m := by omega
      have hkc : ¬ (cap = k) := by omega
      have HM := hide hm
      have HIs : Hid (Ints wr (.slice (some ⟨g, k, none⟩) (m - k) (cap - k)) ((xs.drop k).take 3000)) := hide (by
        refine ⟨some ⟨g, k, none⟩, cap - k, ?_, ?_, (fun h => by cases h), .inr ⟨g, k, rfl, fun i hi => ?_⟩⟩
        · rw [List.length_take, List.length_drop]; congr 1; omega
        · rw [List.length_take, List.length_drop]; unfold maxLen; omega
        · rw [List.length_take, List.length_drop] at hi
          have hk1 := hcs (k + i) (by omega)
          rw [hI.2.cell (p := ⟨g, k + i, none⟩) (World.block_lt_of_cell? w _ hk1), hk1]
          congr 2
          rw [List.getD_eq_getElem?_getD, List.getD_eq_getElem?_getD, List.getElem?_take, if_pos (by omega), List.getElem?_drop])
      have HAl : Hid (((xs.drop k).take 3000).all (M.hasB user) = true) := hide (by
        rw [List.all_eq_true]
        intro x hx
        exact List.all_eq_true.1 (unhide HA) x (List.mem_of_mem_drop (List.mem_of_mem_take hx)))
      have HE := hide (encodeS_any user wr (unhide HIs) (fun n hn => unhide HW n (List.mem_of_mem_drop (List.mem_of_mem_take hn))) (by rw [List.length_take]; omega))
      rw [encResS_yes (unhide HAl)] at HE
      have HT : Hid (M.encS user (xs.take (k + 3000)) = M.encS user (xs.take k) ++ M.encS user ((xs.drop k).take 3000)) := hide (by
        rw [List.take_add]; unfold M.encS; rw [List.map_append])
      have HBy : Hid (∀ x ∈ M.encS user ((xs.drop k).take 3000), 0 ≤ x ∧ x ≤ 255) := hide (M.encS_byt user _ (unhide HAl))
      have hl1 : Hid ((M.encS user (xs.take k)).length ≤ 30000) := hide (by rw [M.encS_len, List.length_take]; omega)
      have hl2 : Hid ((M.encS user ((xs.drop k).take 3000)).length ≤ 3000) := hide (by rw [M.encS_len, List.length_take]; omega)
      have HO := hide hI.1
      have HB := hide hI.2
      clear hI hcs hm HIs HAl
      generalize M.encS user ((xs.drop k).take 3000) = ms at *
      generalize M.encS user (xs.take k) = ns at *
      have hl1' := unhide hl1
      have hl2' := unhide hl2
      go_wp2_with fail
      refine (unhide HE).mono ?_
      rintro e w1 ⟨rfl, hb1⟩
      have hz1 := hb1.size
      have HB1 := hide hb1
      have HO1 := hide (owns_below (unhide HO) hb1)
      clear hb1 HE HO
      go_wp2_with (at_builtin; refine append_str rfl (.tmp 39) (.tmp 40) rfl w.heap.size _ ns rfl (unhide HO1) ms (unhide HBy) rfl (by omega) (by omega) ?_)
      intro ao2 cap2 w2 ho2 hb2
      have HJ : Hid (InO user xs w w2 (k + 3000) (.slice ao2 (ns ++ ms).length cap2)) := hide ⟨by rw [unhide HT]; simpa using ho2, (bstep (unhide HB) (unhide HB1)).trans hb2⟩
      clear ho2 hb2
      go_wp2_with fail
      go_roundw
      case rel => exact ⟨k + 3000, by omega, by go_num, by simpa using unhide HJ⟩
      case measure => simp [intOf]; omega
    · have HT : Hid (xs.take k = xs) := hide (List.take_of_length_le (by omega))
      unfold InO at hI
      rw [unhide HT] at hI ⊢
      have hcv := conv_owned hI.1
      have HB := hide hI.2
      clear hI
      go_wp2_with fail
      go_ret
      exact ⟨rfl, unhide HB⟩
end Go.Proofs.YthhjfedegbldfadDoor
