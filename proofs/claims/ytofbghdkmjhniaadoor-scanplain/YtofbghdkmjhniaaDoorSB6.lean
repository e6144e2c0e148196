/- The contracts of scan.first, told, instead and Meta: the encoding that attributes tell; nothing that was there is written. Conditions: the library's variable MaxLen holds an integer; of too many attributes, or too long ones, the error. -/
import Derived.Test.YtofbghdkmjhniaaDoorPF
import Derived.Test.YtofbghdkmjhniaaDoorRK5
namespace Go.Proofs.YtofbghdkmjhniaaDoor
open Go.RowKit
set_option linter.unusedVariables false

/-- The first value of a name, or an empty one. -/
def vlI (m : ByteArray) (L : List (ByteArray × ByteArray)) (k : Nat) : ByteArray := if 0 ≤ sfI m L k then valAt L (sfI m L k) else ⟨#[]⟩
set_option maxHeartbeats 1600000 in
set_option maxRecDepth 100000 in
theorem sfirst_any {v : Value} {L : List (ByteArray × ByteArray)} (m : ByteArray) (w : World) (hv : Ats w v L) :
    Calls Tryd.prog 43 #[v, .string m] w fun e w' => e = .returned (.tuple #[.string (vlI m L 0), .bool (decide (0 ≤ sfI m L 0))]) ∧ Below w.heap.size w w' := by
  obtain ⟨ao, cap, rfl, hm, hc⟩ := hv
  unfold maxLen at hm
  have HC := hide hc
  clear hc
  have HQ0 := hide (fun x => text_eq x m)
  go_enter Tryd.func43, Tryd.ntmps43
  go_wp2_with fail
  go_loopw [10] (fun i wr => ∃ k : Nat, k ≤ L.length ∧ i = .int .i64 k ∧ Below w.heap.size w wr ∧ Hid (sfI m L 0 = sfI m L k)) (fun i _ => L.length - (intOf i).toNat)
  case atStart => exact ⟨0, by omega, rfl, Below.refl _ _, hide rfl⟩
  case round =>
    obtain ⟨k, hk, rfl, hbr, HS⟩ := hrel
    have HB := hide hbr
    clear hbr
    by_cases hlt : k < L.length
    · obtain ⟨b, off, rfl, hcc⟩ : ∃ b off, ao = some ⟨b, off, none⟩ ∧ ∀ i (h : i < L.length), w.cell? ⟨b, off + i * 2, none⟩ = some (.string L[i].1) ∧ w.cell? ⟨b, off + i * 2 + 1, none⟩ = some (.string L[i].2) := by
        rcases unhide HC with h | h
        · subst h; simp at hlt
        · exact h
      obtain ⟨c1, c2⟩ := hcc k hlt
      replace c1 := ((unhide HB).cell (p := ⟨b, off + k * 2, none⟩) (World.block_lt_of_cell? w _ c1)).trans c1
      replace c2 := ((unhide HB).cell (p := ⟨b, off + k * 2 + 1, none⟩) (World.block_lt_of_cell? w _ c2)).trans c2
      clear hcc
      have HH := hide (fun h => sfI_hit (m := m) hlt h)
      have HM := hide (fun h => sfI_miss (m := m) hlt h)
      have HV := hide (valAt_nat hlt)
      generalize L[k].1 = X at c1 HH HM
      generalize L[k].2 = Y at c2 HV
      by_cases hX : X = m
      · have hq : (X.toList == m.toList) = true := by rw [unhide HQ0 X]; exact decide_eq_true hX
        have HR : Hid (sfI m L 0 = k) := hide ((unhide HS).trans (unhide HH hX))
        clear hX HH HM HS
        go_wp2_with fail
        go_ret2
        refine ⟨?_, (unhide HB).alloc (unhide HB).size _⟩
        unfold vlI
        rw [unhide HR, unhide HV, if_pos (by omega), decide_eq_true (by omega)]
        rfl
      · have hq : (X.toList == m.toList) = false := by rw [unhide HQ0 X]; exact decide_eq_false hX
        have HR : Hid (sfI m L 0 = sfI m L (k + 1)) := hide ((unhide HS).trans (unhide HM hX))
        clear hX HH HM HS
        go_wp2_with fail
        go_roundw
        case rel => exact ⟨k + 1, by omega, by go_num, (unhide HB).alloc (unhide HB).size _, HR⟩
        case measure => simp [intOf]; omega
    · have HR : Hid (sfI m L 0 = -1) := hide (by rw [unhide HS, show k = L.length from by omega, sfI_end])
      go_wp2_with fail
      go_ret2
      refine ⟨?_, unhide HB⟩
      unfold vlI
      rw [unhide HR]
      rfl
set_option maxHeartbeats 400000 in
set_option maxRecDepth 100000 in
theorem instead_any (n : Int) (w : World) : Calls Tryd.prog 24 #[.int .i64 n] w fun e w' => e = .returned (.int .i64 (fixE n)) ∧ w' = w := by
  by_cases h2 : n = 2
  · subst h2
    go_enter Tryd.func24, Tryd.ntmps24
    go_wp2_with fail
    go_ret
    exact ⟨rfl, rfl⟩
  · have e2 := ne_eq h2
    by_cases h3 : n = 3
    · subst h3
      go_enter Tryd.func24, Tryd.ntmps24
      go_wp2_with fail
      go_ret
      exact ⟨rfl, rfl⟩
    · have e3 := ne_eq h3
      by_cases h5 : n = 5
      · subst h5
        go_enter Tryd.func24, Tryd.ntmps24
        go_wp2_with fail
        go_ret
        exact ⟨rfl, rfl⟩
      · have e5 := ne_eq h5
        have HF : Hid (fixE n = n) := hide (by unfold fixE; rw [if_neg (by omega), if_neg h5])
        go_enter Tryd.func24, Tryd.ntmps24
        go_wp2_with fail
        go_ret
        exact ⟨ret_int (unhide HF).symm, rfl⟩
/-- What attributes tell, ahead of what is meant instead. -/
def tldI (L : List (ByteArray × ByteArray)) : Int :=
  if 0 ≤ sfI csB L 0 then findI (valAt L (sfI csB L 0)) else if vlI heB L 0 = ctB then chsI (bl (vlI coB L 0)) else 0
theorem chsI_nil : chsI (bl ⟨#[]⟩) = 0 := by decide +kernel
theorem metaI_tld (L : List (ByteArray × ByteArray)) : fixE (tldI L) = metaI L := by
  unfold metaI tldI
  congr 1
  split
  · rfl
  · unfold vlI
    by_cases h1 : 0 ≤ sfI heB L 0
    · rw [if_pos h1]
      by_cases h2 : 0 ≤ sfI coB L 0
      · rw [if_pos h2]
        by_cases h3 : valAt L (sfI heB L 0) = ctB
        · rw [if_pos h3, if_pos ⟨h1, h2, h3⟩]
        · rw [if_neg h3, if_neg (fun h => h3 h.2.2)]
      · rw [if_neg h2, chsI_nil, if_neg (show ¬ (0 ≤ sfI heB L 0 ∧ 0 ≤ sfI coB L 0 ∧ valAt L (sfI heB L 0) = ctB) from fun h => h2 h.2.1)]
        split <;> rfl
    · rw [if_neg h1, if_neg (show ¬ (⟨#[]⟩ : ByteArray) = ctB from by decide), if_neg (show ¬ (0 ≤ sfI heB L 0 ∧ 0 ≤ sfI coB L 0 ∧ valAt L (sfI heB L 0) = ctB) from fun h => h1 h.1)]
theorem valAt_few {L : List (ByteArray × ByteArray)} (hs : ∀ x ∈ L, x.1.size ≤ 3000 ∧ x.2.size ≤ 3000) (i : Int) : (valAt L i).size ≤ 3000 := by
  unfold valAt
  by_cases h : i.toNat < L.length
  · rw [show L.getD i.toNat (⟨#[]⟩, ⟨#[]⟩) = L[i.toNat] from by simp [h]]
    exact (hs _ (List.getElem_mem h)).2
  · rw [show L.getD i.toNat (⟨#[]⟩, ⟨#[]⟩) = (⟨#[]⟩, ⟨#[]⟩) from by simp [h]]
    decide
theorem vlI_few {L : List (ByteArray × ByteArray)} (hs : ∀ x ∈ L, x.1.size ≤ 3000 ∧ x.2.size ≤ 3000) (m : ByteArray) : (vlI m L 0).size ≤ 3000 := by
  unfold vlI
  split
  · exact valAt_few hs _
  · decide
set_option maxHeartbeats 1600000 in
set_option maxRecDepth 100000 in
theorem stold_any {v : Value} {L : List (ByteArray × ByteArray)} (w : World) (hv : Ats w v L) (hs : ∀ x ∈ L, x.1.size ≤ 3000 ∧ x.2.size ≤ 3000) (hM : Mx w) :
    Calls Tryd.prog 25 #[v] w fun e w' => e = .returned (.int .i64 (tldI L)) ∧ Below w.heap.size w w' := by
  have HV := hide hv
  have H1 := hide (fun (w : World) (h : Ats w v L) => sfirst_any csB w h)
  have H2 := hide (fun (w : World) (h : Ats w v L) => sfirst_any heB w h)
  have H3 := hide (fun (w : World) (h : Ats w v L) => sfirst_any coB w h)
  unfold csB at H1
  unfold heB at H2
  unfold coB at H3
  have HM := hide hM
  have z1 := vlI_few hs csB
  have z2 := vlI_few hs heB
  have z3 := vlI_few hs coB
  have HT : Hid (tldI L = if 0 ≤ sfI csB L 0 then findI (vlI csB L 0) else if vlI heB L 0 = ctB then chsI (bl (vlI coB L 0)) else 0) := hide (by
    unfold tldI
    by_cases h : 0 ≤ sfI csB L 0
    · rw [if_pos h, if_pos h]; unfold vlI; rw [if_pos h]
    · rw [if_neg h, if_neg h])
  rw [show (⟨#[99, 104, 97, 114, 115, 101, 116]⟩ : ByteArray) = csB from rfl] at H1
  rw [show (⟨#[104, 116, 116, 112, 45, 101, 113, 117, 105, 118]⟩ : ByteArray) = heB from rfl] at H2
  rw [show (⟨#[99, 111, 110, 116, 101, 110, 116]⟩ : ByteArray) = coB from rfl] at H3
  generalize vlI csB L 0 = X1 at *
  generalize vlI heB L 0 = X2 at *
  generalize vlI coB L 0 = X3 at *
  obtain ⟨d1, Hd1⟩ : ∃ d1, Hid (decide (0 ≤ sfI csB L 0) = d1) := ⟨_, hide rfl⟩
  rw [unhide Hd1] at H1
  generalize decide (0 ≤ sfI heB L 0) = d2 at H2
  generalize decide (0 ≤ sfI coB L 0) = d3 at H3
  unfold csB at H1
  unfold heB at H2
  unfold coB at H3
  obtain ⟨ao, cap, hsh, hm, hc⟩ := hv
  subst hsh
  clear hc hs hM
  have y4 : ctB.toList = ([99, 111, 110, 116, 101, 110, 116, 45, 116, 121, 112, 101] : List UInt8) := by rw [Lib.toList_data]; rfl
  have e4 := eq_lit X2 ctB _ y4
  clear y4
  by_cases h1 : 0 ≤ sfI csB L 0
  · have HT' := hide ((unhide HT).trans (if_pos h1))
    have HF := hide (fun w => Find_ok X1 w z1)
    have hd : d1 = true := by rw [← unhide Hd1]; exact decide_eq_true h1
    subst hd
    clear h1 HT e4
    go_enter Tryd.func25, Tryd.ntmps25
    go_wp2_with fail
    refine (unhide H1 _ (unhide HV)).mono ?_
    rintro e w1 ⟨rfl, hb1⟩
    have HB1 := hide hb1
    clear hb1
    go_wp2_with fail
    refine (unhide HF _).mono ?_
    rintro e w2 ⟨rfl, hb2⟩
    have HB2 := hide (bstep (unhide HB1) hb2)
    clear hb2
    go_wp2_with fail
    go_ret
    exact ⟨ret_int (unhide HT').symm, unhide HB2⟩
  · have HT' := hide ((unhide HT).trans (if_neg h1))
    have hd : d1 = false := by rw [← unhide Hd1]; exact decide_eq_false h1
    subst hd
    clear h1 HT
    go_enter Tryd.func25, Tryd.ntmps25
    go_wp2_with fail
    refine (unhide H1 _ (unhide HV)).mono ?_
    rintro e w1 ⟨rfl, hb1⟩
    have HB1 := hide hb1
    clear hb1
    go_wp2_with fail
    refine (unhide H2 _ ((unhide HV).below (unhide HB1))).mono ?_
    rintro e w2 ⟨rfl, hb2⟩
    have HB2 := hide (bstep (unhide HB1) hb2)
    clear hb2
    by_cases h2 : X2 = ctB
    · rw [decide_eq_true h2] at e4
      have HT2 := hide ((unhide HT').trans (if_pos h2))
      have HC := hide (fun w h => Charset_ok X3 w z3 h)
      clear h2
      go_wp2_with fail
      refine (unhide H3 _ ((unhide HV).below (unhide HB2))).mono ?_
      rintro e w3 ⟨rfl, hb3⟩
      have HB3 := hide (bstep (unhide HB2) hb3)
      clear hb3
      go_wp2_with fail
      refine (unhide HC _ ((unhide HM).below (unhide HB3))).mono ?_
      rintro e w4 ⟨rfl, hb4⟩
      have HB4 := hide (bstep (unhide HB3) hb4)
      clear hb4
      go_wp2_with fail
      go_ret
      exact ⟨ret_int (unhide HT2).symm, unhide HB4⟩
    · rw [decide_eq_false h2] at e4
      have HT2 := hide ((unhide HT').trans (if_neg h2))
      clear h2
      go_wp2_with fail
      go_ret
      exact ⟨ret_int (unhide HT2).symm, unhide HB2⟩

def okM (x : ByteArray × ByteArray) : Bool := decide (x.1.size ≤ 3000) && decide (x.2.size ≤ 3000)
/-- Meta's own look at the lengths, and what it tells. -/
def mtE (L : List (ByteArray × ByteArray)) : Int × Int := if L.length ≤ 3000 ∧ L.all okM = true then (metaI L, 0) else (0, 2)
theorem okM_all {L : List (ByteArray × ByteArray)} (h : L.all okM = true) : ∀ x ∈ L, x.1.size ≤ 3000 ∧ x.2.size ≤ 3000 := by
  intro x hx
  have := List.all_eq_true.1 h x hx
  unfold okM at this
  simpa using this
set_option maxHeartbeats 1600000 in
set_option maxRecDepth 100000 in
theorem Meta_any {v : Value} {L : List (ByteArray × ByteArray)} (w : World) (hv : Ats w v L) (hz : ∀ x ∈ L, x.1.size ≤ maxLen ∧ x.2.size ≤ maxLen) (hM : Mx w) :
    Calls Tryd.prog 13 #[v] w fun e w' => e = .returned (.tuple #[.int .i64 (mtE L).1, .int .i64 (mtE L).2]) ∧ Below w.heap.size w w' := by
  have HV := hide hv
  have HZ := hide hz
  have HM := hide hM
  obtain ⟨ao, cap, rfl, hm, hc⟩ := hv
  unfold maxLen at hm
  have HC := hide hc
  clear hc hz hM
  by_cases hl : L.length ≤ 3000
  · have hlb : decide ((3000 : Int) < (L.length : Int)) = false := decide_eq_false (by omega)
    go_enter Tryd.func13, Tryd.ntmps13
    go_wp2_with fail
    go_loopw [11] (fun i wr => ∃ k : Nat, k ≤ L.length ∧ i = .int .i64 k ∧ Below w.heap.size w wr ∧ Hid ((L.take k).all okM = true)) (fun i _ => L.length - (intOf i).toNat)
    case atStart => exact ⟨0, by omega, rfl, Below.refl _ _, hide rfl⟩
    case round =>
      obtain ⟨k, hk, rfl, hbr, HK⟩ := hrel
      have HB := hide hbr
      clear hbr
      by_cases hlt : k < L.length
      · obtain ⟨b, off, rfl, hcc⟩ : ∃ b off, ao = some ⟨b, off, none⟩ ∧ ∀ i (h : i < L.length), w.cell? ⟨b, off + i * 2, none⟩ = some (.string L[i].1) ∧ w.cell? ⟨b, off + i * 2 + 1, none⟩ = some (.string L[i].2) := by
          rcases unhide HC with h | h
          · subst h; simp at hlt
          · exact h
        obtain ⟨c1, c2⟩ := hcc k hlt
        replace c1 := ((unhide HB).cell (p := ⟨b, off + k * 2, none⟩) (World.block_lt_of_cell? w _ c1)).trans c1
        replace c2 := ((unhide HB).cell (p := ⟨b, off + k * 2 + 1, none⟩) (World.block_lt_of_cell? w _ c2)).trans c2
        clear hcc
        obtain ⟨z1, z2⟩ := unhide HZ L[k] (List.getElem_mem hlt)
        unfold maxLen at z1 z2
        have HO : Hid (okM L[k] = true → (L.take (k + 1)).all okM = true) := hide (fun h => by rw [List.take_succ_eq_append_getElem hlt, List.all_append, unhide HK, List.all_cons, List.all_nil, h]; rfl)
        have HNO : Hid (okM L[k] = false → mtE L = (0, 2)) := hide (fun h => by
          unfold mtE
          rw [if_neg]
          rintro ⟨_, h'⟩
          have := List.all_eq_true.1 h' L[k] (List.getElem_mem hlt)
          rw [h] at this; cases this)
        unfold okM at HO HNO
        have hltI : (k : Int) < (L.length : Int) := by omega
        generalize L[k].1 = X at c1 z1 HO HNO
        generalize L[k].2 = Y at c2 z2 HO HNO
        by_cases hX : X.size ≤ 3000
        · by_cases hY : Y.size ≤ 3000
          · have HO' := hide (unhide HO (by rw [decide_eq_true hX, decide_eq_true hY]; rfl))
            clear HO HNO
            go_wp2_with fail
            go_roundw
            case rel => exact ⟨k + 1, by omega, by go_num, (unhide HB).alloc (unhide HB).size _, HO'⟩
            case measure => simp [intOf]; omega
          · have HO' := hide (unhide HNO (by rw [decide_eq_false hY, Bool.and_false]))
            clear HO HNO
            go_wp2_with fail
            go_ret2
            exact ⟨by rw [unhide HO']; rfl, (unhide HB).alloc (unhide HB).size _⟩
        · have HO' := hide (unhide HNO (by rw [decide_eq_false hX, Bool.false_and]))
          clear HO HNO
          go_wp2_with fail
          go_ret2
          exact ⟨by rw [unhide HO']; rfl, (unhide HB).alloc (unhide HB).size _⟩
      · have ha : L.all okM = true := by have := unhide HK; rwa [List.take_of_length_le (by omega)] at this
        have HE : Hid (mtE L = (fixE (tldI L), 0)) := hide (by unfold mtE; rw [if_pos ⟨hl, ha⟩, metaI_tld])
        have HT := hide (stold_any wr ((unhide HV).below (unhide HB)) (okM_all ha) ((unhide HM).below (unhide HB)))
        have hltI : ¬ (k : Int) < (L.length : Int) := by omega
        clear ha
        generalize tldI L = T at *
        have HI := hide (fun w => instead_any T w)
        go_wp2_with fail
        refine (unhide HT).mono ?_
        rintro e w1 ⟨rfl, hb1⟩
        have HB1 := hide (bstep (unhide HB) hb1)
        clear hb1
        go_wp2_with fail
        refine (unhide HI _).mono ?_
        rintro e w2 ⟨rfl, hw⟩
        replace hw := hw.symm
        subst hw
        go_wp2_with fail
        go_ret2
        exact ⟨by rw [unhide HE]; rfl, unhide HB1⟩
  · have hlb : decide ((3000 : Int) < (L.length : Int)) = true := decide_eq_true (by omega)
    have HE : Hid (mtE L = (0, 2)) := hide (by unfold mtE; rw [if_neg (fun h => hl h.1)])
    go_enter Tryd.func13, Tryd.ntmps13
    go_wp2_with fail
    go_ret2
    exact ⟨by rw [unhide HE]; rfl, Below.refl _ _⟩
theorem Meta_ok {v : Value} {L : List (ByteArray × ByteArray)} (w : World) (hv : Ats w v L) (hl : L.length ≤ 3000) (hs : ∀ x ∈ L, x.1.size ≤ 3000 ∧ x.2.size ≤ 3000) (hM : Mx w) :
    Calls Tryd.prog 13 #[v] w fun e w' => e = .returned (.tuple #[.int .i64 (metaI L), .int .i64 0]) ∧ Below w.heap.size w w' := by
  have h := Meta_any w hv (fun x hx => by have := hs x hx; unfold maxLen; omega) hM
  have e : mtE L = (metaI L, 0) := by
    unfold mtE
    rw [if_pos ⟨hl, List.all_eq_true.2 (fun x hx => by have := hs x hx; unfold okM; simp [this])⟩]
  rw [e] at h
  exact h
end Go.Proofs.YtofbghdkmjhniaaDoor
