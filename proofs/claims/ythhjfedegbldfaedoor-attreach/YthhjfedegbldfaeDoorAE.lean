/- The walk of AttrEach over what attr's calls have to answer: true; nothing that was there is written. -/
import Derived.Test.YthhjfedegbldfaeDoorAD
namespace Go.Proofs.YthhjfedegbldfaeDoor
open Go.RowKit
set_option linter.unusedVariables false

/-- What is left behind k attributes is what stands from p on. -/
def EachAt (L : List Int) (a k p : Nat) : Prop := p ≤ L.length ∧ (attrsI L a).1.drop k = (attrsI L p).1 ∧ (attrsI L a).2 = (attrsI L p).2
theorem each_step {L : List Int} {a k p : Nat} (h : EachAt L a k p) (hk : k < (attrsI L a).1.length) : (attrI L p).2.2 = true ∧ (attrsI L a).1[k] = (attrI L p).1 ∧ p < (attrI L p).2.1 ∧ EachAt L a (k + 1) (attrI L p).2.1 := by
  obtain ⟨h1, h2, h3⟩ := h
  have hb := attrI_le h1
  rw [List.drop_eq_getElem_cons hk] at h2
  cases hq : (attrI L p).2.2
  · rw [attrsI_no h1 hq] at h2; cases h2
  · rw [attrsI_yes h1 hq] at h2 h3
    obtain ⟨e1, e2⟩ := List.cons.inj h2
    exact ⟨rfl, e1, hb.2.2 hq, hb.1, e2, h3⟩
theorem each_end {L : List Int} {a k p : Nat} (h : EachAt L a k p) (hk : (attrsI L a).1.length ≤ k) : (attrI L p).2.2 = false ∧ (attrI L p).2.1 = (attrsI L a).2 := by
  obtain ⟨h1, h2, h3⟩ := h
  rw [List.drop_of_length_le hk] at h2
  cases hq : (attrI L p).2.2
  · rw [attrsI_no h1 hq] at h3; exact ⟨rfl, h3.symm⟩
  · rw [attrsI_yes h1 hq] at h2; cases h2
theorem badE_0 {s : ByteArray} {k : Int} (h : badE s k = 0) : s.size ≤ 3000 ∧ 0 ≤ k ∧ k ≤ s.size := by
  unfold badE at h
  split at h
  · cases h
  · split at h
    · cases h
    · omega
theorem agg_beq {a b : ByteArray} (h : a = b) : (a.toList == b.toList) = true := by rw [h]; simp

set_option maxHeartbeats 3200000 in
set_option maxRecDepth 100000 in
theorem each_bad (hB : ∀ w : World, Mx w → Calls Tryd.prog 15 #[] w fun e w' => e = .returned (.bool true) ∧ Below w.heap.size w w') (hE : AllErrs) (s : ByteArray) (k : Int) (w : World) (hMx : Mx w) (hs : s.size ≤ maxLen) (h1 : -9223372036854775808 ≤ k) (h2 : k < 9223372036854775808) (h : badE s k ≠ 0) :
    Calls Tryd.prog 5 #[.string s, .int .i64 k] w fun e w' => e = .returned (.bool true) ∧ Below w.heap.size w w' := by
  have HMx := hide hMx
  clear hMx
  have HE := hide (fun w => hE s k w hs h1 h2 h)
  have hne : (badE s k != 0) = true := by simp [h]
  generalize badE s k = E at HE hne
  clear h hE
  have HB := hide hB
  clear hB
  go_enter Tryd.func5, Tryd.ntmps5
  go_wp2_with fail
  refine (unhide HE _).mono ?_
  rintro e w1 ⟨v, rfl, ⟨ao, cap, rfl, -, -⟩, hb1⟩
  have HB1 := hide hb1
  clear hb1 HE
  simp only [List.length_nil]
  go_wp2_with fail
  refine (unhide HB _ (by first | exact unhide HMx | exact (unhide HMx).below (unhide (by assumption)) | exact (unhide HMx).below (bstep (unhide (by assumption)) (balloc _ _)))).mono ?_
  rintro e w2 ⟨rfl, hb2⟩
  have HB2 := hide (bstep (unhide HB1) hb2)
  clear hb2 HB1 HB
  go_wp2_with fail
  go_ret
  exact ⟨rfl, unhide HB2⟩

theorem txts_len (l : List (List Int × List Int)) : (txts l).length = l.length := by simp [txts]
theorem txts_at (l : List (List Int × List Int)) {i : Nat} (h : i < l.length) : (txts l)[i]'(by rw [txts_len]; exact h) = (strOfNums l[i].1, strOfNums l[i].2) := by simp [txts]
/-- The cells of a row of attributes. -/
def Cel (w : World) (ao : Option Addr) (l : List (List Int × List Int)) : Prop := l = [] ∨ ∃ b off, ao = some ⟨b, off, none⟩ ∧ ∀ i (h : i < l.length), w.cell? ⟨b, off + i * 2, none⟩ = some (.string (strOfNums l[i].1)) ∧ w.cell? ⟨b, off + i * 2 + 1, none⟩ = some (.string (strOfNums l[i].2))
theorem Cel.of {w : World} {v : Value} {l : List (List Int × List Int)} (h : Ats w v (txts l)) : ∃ ao cap, v = .slice ao l.length cap ∧ l.length ≤ maxLen ∧ Cel w ao l := by
  obtain ⟨ao, cap, rfl, hm, hc⟩ := h
  rw [txts_len] at hm
  refine ⟨ao, cap, by rw [txts_len], hm, ?_⟩
  rcases hc with h | ⟨b, off, h1, h2⟩
  · exact .inl (by simpa [txts] using h)
  · refine .inr ⟨b, off, h1, fun i hi => ?_⟩
    have := h2 i (by rw [txts_len]; exact hi)
    rw [txts_at l hi] at this
    exact this
theorem Cel.below {w w' : World} {ao : Option Addr} {l : List (List Int × List Int)} (h : Cel w ao l) (hb : Below w.heap.size w w') : Cel w' ao l := by
  rcases h with h | ⟨b, off, h1, h2⟩
  · exact .inl h
  · refine .inr ⟨b, off, h1, fun i hi => ?_⟩
    obtain ⟨c1, c2⟩ := h2 i hi
    exact ⟨(hb.cell (p := ⟨b, off + i * 2, none⟩) (World.block_lt_of_cell? w _ c1)).trans c1, (hb.cell (p := ⟨b, off + i * 2 + 1, none⟩) (World.block_lt_of_cell? w _ c2)).trans c2⟩
set_option maxHeartbeats 6400000 in
set_option maxRecDepth 100000 in
theorem each_good (hB : ∀ w : World, Mx w → Calls Tryd.prog 15 #[] w fun e w' => e = .returned (.bool true) ∧ Below w.heap.size w w') (hN : NextSays) (hA : AllSays) (s : ByteArray) (k0 : Nat) (w : World) (hMx : Mx w) (hk0 : k0 ≤ s.size) (hs : s.size ≤ 3000) :
    Calls Tryd.prog 5 #[.string s, .int .i64 (k0 : Int)] w fun e w' => e = .returned (.bool true) ∧ Below w.heap.size w w' := by
  have HMx := hide hMx
  clear hMx
  have HN := hide (fun p w hp => hN s p w hp hs)
  have HA := hide (fun w => hA s k0 w hk0 hs)
  have HB := hide hB
  have hl := bl_len s
  have HL := hide hl
  have hle := (attrsI_le (bl s) _ k0 (Nat.le_refl _) (by omega))
  have HEN := hide (attrsI_end (bl s) _ k0 (Nat.le_refl _) (by omega))
  have hE0 : EachAt (bl s) k0 0 k0 := ⟨by omega, rfl, rfl⟩
  have HE0 := hide hE0
  rw [hl] at hle
  have hn := hle.2.2
  have hEs := hle.1
  clear hN hA hB hE0 hle hl
  obtain ⟨M, HM⟩ : ∃ M, Hid ((attrsI (bl s) k0).1 = M) := ⟨_, rfl⟩
  obtain ⟨E, HE⟩ : ∃ E, Hid ((attrsI (bl s) k0).2 = E) := ⟨_, rfl⟩
  rw [unhide HM] at HA hn
  rw [unhide HE] at HA HEN hEs
  rw [unhide HL] at HEN
  go_enter Tryd.func5, Tryd.ntmps5
  go_wp2_with fail
  refine (unhide HA _).mono ?_
  rintro e w1 ⟨v, rfl, hv, hb1⟩
  obtain ⟨ao, cap, rfl, -, hc⟩ := Cel.of hv
  have HB1 := hide hb1
  have HC := hide hc
  clear hb1 HA hv hc
  go_wp2_with fail
  refine (unhide HB _ (by first | exact unhide HMx | exact (unhide HMx).below (unhide (by assumption)) | exact (unhide HMx).below (bstep (unhide (by assumption)) (balloc _ _)))).mono ?_
  rintro e w2 ⟨rfl, hb2⟩
  have HB2 := hide (bstep (unhide HB1) hb2)
  have HC2 := hide ((unhide HC).below hb2)
  clear hb2 HB1 HB HC
  go_wp2_with fail
  go_loopw [1, 8] (fun pv iv wr => ∃ k p : Nat, k ≤ M.length ∧ iv = .int .i64 k ∧ pv = .int .i64 p ∧ Below w2.heap.size w2 wr ∧ Hid (EachAt (bl s) k0 k p)) (fun pv iv _ => M.length - (intOf iv).toNat)
  case atStart => exact ⟨0, k0, by omega, rfl, rfl, Below.refl _ _, HE0⟩
  case round =>
    obtain ⟨k, p, hk, rfl, rfl, hbr, HK⟩ := hrel
    have HBr := hide hbr
    clear hbr
    have hp : p ≤ s.size := by have := (unhide HK).1; rw [unhide HL] at this; exact this
    have r := fun w => unhide HN p w hp
    by_cases hlt : k < M.length
    · have hst := each_step (unhide HK) (by rw [unhide HM]; exact hlt)
      simp only [unhide HM] at hst
      obtain ⟨h1, h2, h3, h4⟩ := hst
      have HK' := hide h4
      obtain ⟨b, off, rfl, hcc⟩ : ∃ b off, ao = some ⟨b, off, none⟩ ∧ ∀ i (h : i < M.length), w2.cell? ⟨b, off + i * 2, none⟩ = some (.string (strOfNums M[i].1)) ∧ w2.cell? ⟨b, off + i * 2 + 1, none⟩ = some (.string (strOfNums M[i].2)) := by
        rcases unhide HC2 with h | h
        · subst h; simp at hlt
        · exact h
      obtain ⟨c1, c2⟩ := hcc k hlt
      rw [h2] at c1 c2
      rw [h1] at r
      generalize strOfNums (attrI (bl s) p).1.1 = X at c1 c2 r
      generalize strOfNums (attrI (bl s) p).1.2 = Y at c1 c2 r
      generalize (attrI (bl s) p).2.1 = q at r h3 HK'
      have d1 := ((unhide HBr).cell (p := ⟨b, off + k * 2, none⟩) (World.block_lt_of_cell? w2 _ c1)).trans c1
      have d2 := ((unhide HBr).cell (p := ⟨b, off + k * 2 + 1, none⟩) (World.block_lt_of_cell? w2 _ c2)).trans c2
      clear h1 h2 h4 hcc c1 c2
      have hltI : (k : Int) < (M.length : Int) := by omega
      have h3I : (p : Int) < (q : Int) := by omega
      go_wp2_with fail
      refine (r _).mono ?_
      rintro e u ⟨rfl, hbu⟩
      have f1 := (hbu.cell (p := ⟨b, off + k * 2, none⟩) (World.block_lt_of_cell? wr _ d1)).trans d1
      have f2 := (hbu.cell (p := ⟨b, off + k * 2 + 1, none⟩) (World.block_lt_of_cell? wr _ d2)).trans d2
      have hbl : b < u.heap.size := World.block_lt_of_cell? u _ f1
      have HBu := hide (bstep (bstep (unhide HBr) hbu) (balloc _ (.cells #[.string X, .string Y] 23)))
      have g1 : (u.alloc (.cells #[.string X, .string Y] 23)).cell? ⟨b, off + k * 2, none⟩ = some (.string X) := (World.cell?_alloc_lt _ _ _ hbl).trans f1
      have g2 : (u.alloc (.cells #[.string X, .string Y] 23)).cell? ⟨b, off + k * 2 + 1, none⟩ = some (.string Y) := (World.cell?_alloc_lt _ _ _ hbl).trans f2
      clear hbu HBr d1 d2 f1 f2 r
      go_wp2_with fail
      go_region
      all_goals
        go_wp2_with fail
        go_roundw
        case rel => exact ⟨k + 1, q, by omega, by go_num, rfl, below_drewN (unhide HBu) 1, HK'⟩
        case measure => simp [intOf]; omega
    · obtain ⟨h1, h2⟩ := each_end (unhide HK) (by rw [unhide HM]; omega)
      rw [unhide HE] at h2
      rw [h1, h2] at r
      generalize strOfNums (attrI (bl s) p).1.1 = X at r
      generalize strOfNums (attrI (bl s) p).1.2 = Y at r
      clear h1 h2
      have hltI : ¬ (k : Int) < (M.length : Int) := by omega
      go_wp2_with fail
      refine (r _).mono ?_
      rintro e u ⟨rfl, hbu⟩
      have HBu := hide (bstep (bstep (bstep (unhide HB2) (unhide HBr)) hbu) (balloc _ (.cells #[.string X, .string Y] 23)))
      clear hbu r HBr
      rcases unhide HEN with h | ⟨h, h62⟩
      · have hE : ((E : Int) == (s.size : Int)) = true := beq_iff_eq.2 (by omega)
        go_wp2_with fail
        go_ret
        exact ⟨rfl, unhide HBu⟩
      · have hE : ((E : Int) == (s.size : Int)) = false := beq_eq_false_iff_ne.2 (by omega)
        rw [bl_at h] at h62
        have hE2 : ((s[E].toNat : Int) == 62) = true := beq_iff_eq.2 h62
        have hcb := u8_lt s h
        clear h62
        go_wp2_with fail
        go_ret
        exact ⟨rfl, unhide HBu⟩

theorem each_walk (hN : NextSays) (hA : AllSays) (hC : ChsSays) (hE : AllErrs) (s : ByteArray) (k : Int) (w : World) (hMx : Mx w) (hs : s.size ≤ maxLen) (h1 : -9223372036854775808 ≤ k) (h2 : k < 9223372036854775808) :
    Calls Tryd.prog 5 #[.string s, .int .i64 k] w fun e w' => e = .returned (.bool true) ∧ Below w.heap.size w w' := by
  have HMx := hide hMx
  clear hMx
  by_cases h : badE s k = 0
  · obtain ⟨z1, z2, z3⟩ := badE_0 h
    obtain ⟨n, rfl⟩ := Int.eq_ofNat_of_zero_le z2
    exact each_good (attrBegun_any hN hA hC) hN hA s n w (unhide HMx) (by omega) z1
  · exact each_bad (attrBegun_any hN hA hC) hE s k w (unhide HMx) hs h1 h2 h
end Go.Proofs.YthhjfedegbldfaeDoor
