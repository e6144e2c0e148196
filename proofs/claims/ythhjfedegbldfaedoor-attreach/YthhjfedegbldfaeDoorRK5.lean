/- The contract of the reference's MetaOf: the encoding that a meta's attributes tell; nothing that was there is written. Condition: each value has at most 3000 bytes. -/
import Derived.Test.YthhjfedegbldfaeDoorRJ
namespace Go.Proofs.YthhjfedegbldfaeDoor
open Go.RowKit
set_option linter.unusedVariables false

def csB : ByteArray := ⟨#[99, 104, 97, 114, 115, 101, 116]⟩
def heB : ByteArray := ⟨#[104, 116, 116, 112, 45, 101, 113, 117, 105, 118]⟩
def coB : ByteArray := ⟨#[99, 111, 110, 116, 101, 110, 116]⟩
def ctB : ByteArray := ⟨#[99, 111, 110, 116, 101, 110, 116, 45, 116, 121, 112, 101]⟩
/-- The first place from k on where the name is m, or -1. -/
def sfI (m : ByteArray) (L : List (ByteArray × ByteArray)) (k : Nat) : Int := match (L.drop k).findIdx? (fun x => decide (x.1 = m)) with | some j => ((k + j : Nat) : Int) | none => -1
theorem sfI_end (m : ByteArray) (L : List (ByteArray × ByteArray)) : sfI m L L.length = -1 := by unfold sfI; rw [List.drop_length]; rfl
theorem sfI_hit {m : ByteArray} {L : List (ByteArray × ByteArray)} {j : Nat} (hj : j < L.length) (h : L[j].1 = m) : sfI m L j = j := by
  unfold sfI
  rw [List.drop_eq_getElem_cons hj, List.findIdx?_cons]
  simp [h]
theorem sfI_miss {m : ByteArray} {L : List (ByteArray × ByteArray)} {j : Nat} (hj : j < L.length) (h : L[j].1 ≠ m) : sfI m L j = sfI m L (j + 1) := by
  unfold sfI
  rw [List.drop_eq_getElem_cons hj, List.findIdx?_cons]
  simp only [h, decide_false]
  cases (L.drop (j + 1)).findIdx? (fun x => decide (x.1 = m)) with
  | none => rfl
  | some q => simp; omega
theorem sfI_bd (m : ByteArray) (L : List (ByteArray × ByteArray)) (k : Nat) : sfI m L k = -1 ∨ ∃ j : Nat, sfI m L k = j ∧ j < L.length := by
  unfold sfI
  cases h : (L.drop k).findIdx? (fun x => decide (x.1 = m)) with
  | none => exact .inl rfl
  | some q =>
    refine .inr ⟨k + q, rfl, ?_⟩
    rw [List.findIdx?_eq_some_iff_getElem] at h
    obtain ⟨hq, _⟩ := h
    rw [List.length_drop] at hq; omega
/-- Which encodings are told for which. -/
def fixE (n : Int) : Int := if n = 2 ∨ n = 3 then 1 else if n = 5 then 4 else n
def valAt (L : List (ByteArray × ByteArray)) (i : Int) : ByteArray := (L.getD i.toNat (⟨#[]⟩, ⟨#[]⟩)).2
def metaI (L : List (ByteArray × ByteArray)) : Int :=
  fixE (if 0 ≤ sfI csB L 0 then findI (valAt L (sfI csB L 0)) else if 0 ≤ sfI heB L 0 ∧ 0 ≤ sfI coB L 0 ∧ valAt L (sfI heB L 0) = ctB then chsI (bl (valAt L (sfI coB L 0))) else 0)
theorem valAt_nat {L : List (ByteArray × ByteArray)} {j : Nat} (h : j < L.length) : valAt L (j : Int) = L[j].2 := by
  unfold valAt; simp [h]
theorem eq_lit (x : ByteArray) (m : ByteArray) (cs : List UInt8) (h : m.toList = cs) : (x.toList == cs) = decide (x = m) := by rw [← h, text_eq]

set_option maxHeartbeats 6400000 in
set_option maxRecDepth 100000 in
theorem metaOf_any {v : Value} {L : List (ByteArray × ByteArray)} (w : World) (hv : Ats w v L) (hs : ∀ x ∈ L, x.2.size ≤ 3000) :
    Calls Tryd.prog 22 #[v] w fun e w' => e = .returned (.int .i64 (metaI L)) ∧ Below w.heap.size w w' := by
  obtain ⟨ao, cap, rfl, hm, hc⟩ := hv
  unfold maxLen at hm
  have HC := hide hc
  have HS := hide hs
  clear hc hs
  have y1 : csB.toList = ([99, 104, 97, 114, 115, 101, 116] : List UInt8) := by rw [Lib.toList_data]; rfl
  have y2 : heB.toList = ([104, 116, 116, 112, 45, 101, 113, 117, 105, 118] : List UInt8) := by rw [Lib.toList_data]; rfl
  have y3 : coB.toList = ([99, 111, 110, 116, 101, 110, 116] : List UInt8) := by rw [Lib.toList_data]; rfl
  have y4 : ctB.toList = ([99, 111, 110, 116, 101, 110, 116, 45, 116, 121, 112, 101] : List UInt8) := by rw [Lib.toList_data]; rfl
  have Y1 := hide (fun x => eq_lit x csB _ y1)
  have Y2 := hide (fun x => eq_lit x heB _ y2)
  have Y3 := hide (fun x => eq_lit x coB _ y3)
  have Y4 := hide (fun x => eq_lit x ctB _ y4)
  clear y1 y2 y3 y4
  go_enter Tryd.func22, Tryd.ntmps22
  go_wp2_with fail
  go_loopw [3, 4, 5, 6] (fun a b c i wr => ∃ k : Nat, k ≤ L.length ∧ i = .int .i64 ((k : Int) - 1) ∧ a = .int .i64 (sfI csB L k) ∧ b = .int .i64 (sfI heB L k) ∧ c = .int .i64 (sfI coB L k) ∧ wr = w) (fun _ _ _ i _ => (intOf i + 1).toNat)
  case atStart => exact ⟨L.length, Nat.le_refl _, rfl, by rw [sfI_end], by rw [sfI_end], by rw [sfI_end], rfl⟩
  case round =>
    obtain ⟨k, hk, rfl, rfl, rfl, rfl, hwr⟩ := hrel
    replace hwr := hwr.symm
    subst hwr
    cases k with
    | succ j =>
      have hj : j < L.length := by omega
      rw [show (((j + 1 : Nat) : Int) - 1) = (j : Int) from by omega]
      obtain ⟨b, off, rfl, hcc⟩ : ∃ b off, ao = some ⟨b, off, none⟩ ∧ ∀ i (h : i < L.length), w.cell? ⟨b, off + i * 2, none⟩ = some (.string L[i].1) ∧ w.cell? ⟨b, off + i * 2 + 1, none⟩ = some (.string L[i].2) := by
        rcases unhide HC with h | h
        · subst h; simp at hj
        · exact h
      have c1 := (hcc j hj).1
      have hbl : b < w.heap.size := World.block_lt_of_cell? w _ c1
      clear hcc
      have HX : Hid (L[j].1 = L[j].1) := hide rfl
      have S1 := hide (fun m (h : L[j].1 = m) => sfI_hit hj h)
      have S2 := hide (fun m (h : L[j].1 ≠ m) => sfI_miss (m := m) hj h)
      generalize L[j].1 = x at *
      have e1 := unhide Y1 x
      have e2 := unhide Y2 x
      have e3 := unhide Y3 x
      generalize hA : sfI csB L (j + 1) = A1 at *
      generalize hB : sfI heB L (j + 1) = A2 at *
      generalize hD : sfI coB L (j + 1) = A3 at *
      have HA := hide hA
      have HB := hide hB
      have HD := hide hD
      clear hA hB hD HX
      by_cases h1 : x = csB
      · have n2 : x ≠ heB := by rw [h1]; decide
        have n3 : x ≠ coB := by rw [h1]; decide
        rw [show decide (x = csB) = true from decide_eq_true h1] at e1
        have R1 := hide (unhide S1 _ h1)
        have R2 := hide (unhide S2 _ n2)
        have R3 := hide (unhide S2 _ n3)
        clear h1 n2 n3 e2 e3
        go_wp2_with fail
        go_roundw
        case rel => exact ⟨j, by omega, by go_num, by rw [unhide R1], by rw [unhide R2, unhide HB], by rw [unhide R3, unhide HD], by first | rfl | trivial⟩
        case measure => simp [intOf]
      · rw [show decide (x = csB) = false from decide_eq_false h1] at e1
        have R1 := hide (unhide S2 _ h1)
        by_cases h2 : x = heB
        · have n3 : x ≠ coB := by rw [h2]; decide
          rw [show decide (x = heB) = true from decide_eq_true h2] at e2
          have R2 := hide (unhide S1 _ h2)
          have R3 := hide (unhide S2 _ n3)
          clear h1 h2 n3 e3
          go_wp2_with fail
          go_roundw
          case rel => exact ⟨j, by omega, by go_num, by rw [unhide R1, unhide HA], by rw [unhide R2], by rw [unhide R3, unhide HD], by first | rfl | trivial⟩
          case measure => simp [intOf]
        · rw [show decide (x = heB) = false from decide_eq_false h2] at e2
          have R2 := hide (unhide S2 _ h2)
          by_cases h3 : x = coB
          · rw [show decide (x = coB) = true from decide_eq_true h3] at e3
            have R3 := hide (unhide S1 _ h3)
            clear h1 h2 h3
            go_wp2_with fail
            go_roundw
            case rel => exact ⟨j, by omega, by go_num, by rw [unhide R1, unhide HA], by rw [unhide R2, unhide HB], by rw [unhide R3], by first | rfl | trivial⟩
            case measure => simp [intOf]
          · rw [show decide (x = coB) = false from decide_eq_false h3] at e3
            have R3 := hide (unhide S2 _ h3)
            clear h1 h2 h3
            go_wp2_with fail
            go_roundw
            case rel => exact ⟨j, by omega, by go_num, by rw [unhide R1, unhide HA], by rw [unhide R2, unhide HB], by rw [unhide R3, unhide HD], by first | rfl | trivial⟩
            case measure => simp [intOf]
    | zero =>
      have HM : Hid (metaI L = fixE (if 0 ≤ sfI csB L 0 then findI (valAt L (sfI csB L 0)) else if 0 ≤ sfI heB L 0 ∧ 0 ≤ sfI coB L 0 ∧ valAt L (sfI heB L 0) = ctB then chsI (bl (valAt L (sfI coB L 0))) else 0)) := hide rfl
      have B1 := sfI_bd csB L 0
      have B2 := sfI_bd heB L 0
      have B3 := sfI_bd coB L 0
      generalize sfI csB L 0 = A1 at *
      generalize sfI heB L 0 = A2 at *
      generalize sfI coB L 0 = A3 at *
      rw [show (((0 : Nat) : Int) - 1) = -1 from by omega]
      rcases B1 with rfl | ⟨j1, rfl, hj1⟩
      · rcases B2 with rfl | ⟨j2, rfl, hj2⟩
        · have HZ : Hid (metaI L = 0) := hide (by rw [unhide HM]; simp [fixE])
          go_wp2_with fail
          go_ret
          exact ⟨by rw [unhide HZ]; rfl, Below.refl _ _⟩
        · rcases B3 with rfl | ⟨j3, rfl, hj3⟩
          · have HZ : Hid (metaI L = 0) := hide (by rw [unhide HM]; simp [fixE])
            go_wp2_with fail
            go_ret
            exact ⟨by rw [unhide HZ]; rfl, Below.refl _ _⟩
          · obtain ⟨b, off, rfl, hcc⟩ : ∃ b off, ao = some ⟨b, off, none⟩ ∧ ∀ i (h : i < L.length), w.cell? ⟨b, off + i * 2, none⟩ = some (.string L[i].1) ∧ w.cell? ⟨b, off + i * 2 + 1, none⟩ = some (.string L[i].2) := by
              rcases unhide HC with h | h
              · subst h; simp at hj2
              · exact h
            have c2 := (hcc j2 hj2).2
            have c3 := (hcc j3 hj3).2
            have hbl : b < w.heap.size := World.block_lt_of_cell? w _ c2
            have e4 := unhide Y4 L[j2].2
            have z3 := unhide HS L[j3] (List.getElem_mem _)
            rw [valAt_nat hj2, valAt_nat hj3] at HM
            generalize L[j2].2 = x2 at *
            generalize L[j3].2 = x3 at *
            by_cases hx : x2 = ctB
            · rw [show decide (x2 = ctB) = true from decide_eq_true hx] at e4
              have HZ : Hid (metaI L = fixE (chsI (bl x3))) := hide (by rw [unhide HM, if_neg (by omega), if_pos ⟨by omega, by omega, hx⟩])
              have HCh := hide (fun w => charsetOf_any x3 w z3)
              generalize chsI (bl x3) = n at *
              clear hx hcc
              go_wp2_with fail
              refine (unhide HCh _).mono ?_
              rintro e w1 ⟨rfl, hb1⟩
              have HB1 := hide hb1
              clear hb1
              by_cases n2 : n = 2
              · subst n2
                go_wp2_with fail
                go_ret
                exact ⟨by rw [unhide HZ]; rfl, unhide HB1⟩
              · by_cases n3 : n = 3
                · subst n3
                  go_wp2_with fail
                  go_ret
                  exact ⟨by rw [unhide HZ]; rfl, unhide HB1⟩
                · by_cases n5 : n = 5
                  · subst n5
                    go_wp2_with fail
                    go_ret
                    exact ⟨by rw [unhide HZ]; rfl, unhide HB1⟩
                  · have HF : Hid (fixE n = n) := hide (by unfold fixE; rw [if_neg (by omega), if_neg n5])
                    have n2e := ne_eq n2
                    have n3e := ne_eq n3
                    have n5e := ne_eq n5
                    clear n2 n3 n5
                    go_wp2_with fail
                    go_ret
                    exact ⟨by rw [unhide HZ, unhide HF]; rfl, unhide HB1⟩
            · rw [show decide (x2 = ctB) = false from decide_eq_false hx] at e4
              have HZ : Hid (metaI L = 0) := hide (by rw [unhide HM, if_neg (by omega), if_neg (fun h => hx h.2.2)]; simp [fixE])
              clear hx hcc
              go_wp2_with fail
              go_ret
              exact ⟨by rw [unhide HZ]; rfl, Below.refl _ _⟩
      · obtain ⟨b, off, rfl, hcc⟩ : ∃ b off, ao = some ⟨b, off, none⟩ ∧ ∀ i (h : i < L.length), w.cell? ⟨b, off + i * 2, none⟩ = some (.string L[i].1) ∧ w.cell? ⟨b, off + i * 2 + 1, none⟩ = some (.string L[i].2) := by
          rcases unhide HC with h | h
          · subst h; simp at hj1
          · exact h
        have c1 := (hcc j1 hj1).2
        have hbl : b < w.heap.size := World.block_lt_of_cell? w _ c1
        have z1 := unhide HS L[j1] (List.getElem_mem _)
        rw [valAt_nat hj1] at HM
        generalize L[j1].2 = x1 at *
        have HZ : Hid (metaI L = fixE (findI x1)) := hide (by rw [unhide HM, if_pos (by omega)])
        have HFi := hide (fun w => findOf_any x1 w z1)
        generalize findI x1 = n at *
        clear hcc
        go_wp2_with fail
        refine (unhide HFi _).mono ?_
        rintro e w1 ⟨rfl, hb1⟩
        have HB1 := hide hb1
        clear hb1
        by_cases n2 : n = 2
        · subst n2
          go_wp2_with fail
          go_ret
          exact ⟨by rw [unhide HZ]; rfl, unhide HB1⟩
        · by_cases n3 : n = 3
          · subst n3
            go_wp2_with fail
            go_ret
            exact ⟨by rw [unhide HZ]; rfl, unhide HB1⟩
          · by_cases n5 : n = 5
            · subst n5
              go_wp2_with fail
              go_ret
              exact ⟨by rw [unhide HZ]; rfl, unhide HB1⟩
            · have HF : Hid (fixE n = n) := hide (by unfold fixE; rw [if_neg (by omega), if_neg n5])
              have n2e := ne_eq n2
              have n3e := ne_eq n3
              have n5e := ne_eq n5
              clear n2 n3 n5
              go_wp2_with fail
              go_ret
              exact ⟨by rw [unhide HZ, unhide HF]; rfl, unhide HB1⟩
end Go.Proofs.YthhjfedegbldfaeDoor
