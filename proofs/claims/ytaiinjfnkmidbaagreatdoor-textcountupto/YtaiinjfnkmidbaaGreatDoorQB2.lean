/- Laws that the statements of this seat lean on, part 2 (RK5 MathP MathX5 MathR MathC MathD MathE MathU MathS MathQ MathK MathT MathX MathY MathF6 KA KB): each a contract of a function, or a plain fact; conditions stand at each. -/
import Derived.Deep.AppendLies
import Derived.Deep.RegionHeld3
import Derived.Deep.RegionLaw
import Derived.Lib.Bytealg
import Derived.Lib.Slices
import Derived.Lib.Strings
import Derived.Lib.Walk
import Derived.Test.YtaiinjfnkmidbaaGreatDoorQB1
namespace Go.Proofs.YtaiinjfnkmidbaaGreatDoor
open Go.RowKit
set_option linter.unusedVariables false

def csB : ByteArray := ⟨#[99, 104, 97, 114, 115, 101, 116]⟩
def heB : ByteArray := ⟨#[104, 116, 116, 112, 45, 101, 113, 117, 105, 118]⟩
def coB : ByteArray := ⟨#[99, 111, 110, 116, 101, 110, 116]⟩
def ctB : ByteArray := ⟨#[99, 111, 110, 116, 101, 110, 116, 45, 116, 121, 112, 101]⟩
/-- The first place from k on where the name is m, or -1. -/
def sfI (m : ByteArray) (L : List (ByteArray × ByteArray)) (k : Nat) : Int := match (L.drop k).findIdx? (fun x => decide (x.1 = m)) with | some j => ((k + j : Nat) : Int) | none => -1
theorem sfI_end (m : ByteArray) (L : List (ByteArray × ByteArray)) : sfI m L L.length = -1 := by unfold sfI; rw [List.drop_length]; rfl
theorem sfI_hit {m : ByteArray} {L : List (ByteArray × ByteArray)} {j : Nat} (hj : j < L.length) (h : L[j].1 = m) : sfI m L j = j := by
  unfold sfI
  rw [List.drop_eq_getElem_cons hj, List.findIdx?_cons]
  simp [h]
theorem sfI_miss {m : ByteArray} {L : List (ByteArray × ByteArray)} {j : Nat} (hj : j < L.length) (h : L[j].1 ≠ m) : sfI m L j = sfI m L (j + 1) := by
  unfold sfI
  rw [List.drop_eq_getElem_cons hj, List.findIdx?_cons]
  simp only [h, decide_false]
  cases (L.drop (j + 1)).findIdx? (fun x => decide (x.1 = m)) with
  | none => rfl
  | some q => simp; omega
theorem sfI_bd (m : ByteArray) (L : List (ByteArray × ByteArray)) (k : Nat) : sfI m L k = -1 ∨ ∃ j : Nat, sfI m L k = j ∧ j < L.length := by
  unfold sfI
  cases h : (L.drop k).findIdx? (fun x => decide (x.1 = m)) with
  | none => exact .inl rfl
  | some q =>
    refine .inr ⟨k + q, rfl, ?_⟩
    rw [List.findIdx?_eq_some_iff_getElem] at h
    obtain ⟨hq, _⟩ := h
    rw [List.length_drop] at hq; omega
/-- Which encodings are told for which. -/
def fixE (n : Int) : Int := if n = 2 ∨ n = 3 then 1 else if n = 5 then 4 else n
def valAt (L : List (ByteArray × ByteArray)) (i : Int) : ByteArray := (L.getD i.toNat (⟨#[]⟩, ⟨#[]⟩)).2
def metaI (L : List (ByteArray × ByteArray)) : Int :=
  fixE (if 0 ≤ sfI csB L 0 then findI (valAt L (sfI csB L 0)) else if 0 ≤ sfI heB L 0 ∧ 0 ≤ sfI coB L 0 ∧ valAt L (sfI heB L 0) = ctB then chsI (bl (valAt L (sfI coB L 0))) else 0)
theorem valAt_nat {L : List (ByteArray × ByteArray)} {j : Nat} (h : j < L.length) : valAt L (j : Int) = L[j].2 := by
  unfold valAt; simp [h]
theorem eq_lit (x : ByteArray) (m : ByteArray) (cs : List UInt8) (h : m.toList = cs) : (x.toList == cs) = decide (x = m) := by rw [← h, text_eq]

set_option maxHeartbeats 6400000 in
set_option maxRecDepth 100000 in
theorem metaOf_any {v : Value} {L : List (ByteArray × ByteArray)} (w : World) (hv : Ats w v L) (hs : ∀ x ∈ L, x.2.size ≤ 3000) :
    Calls Tryz.prog 115 #[v] w fun e w' => e = .returned (.int .i64 (metaI L)) ∧ Below w.heap.size w w' := by
  obtain ⟨ao, cap, rfl, hm, hc⟩ := hv
  unfold maxLen at hm
  have HC := hide hc
  have HS := hide hs
  clear hc hs
  have y1 : csB.toList = ([99, 104, 97, 114, 115, 101, 116] : List UInt8) := by rw [Lib.toList_data]; rfl
  have y2 : heB.toList = ([104, 116, 116, 112, 45, 101, 113, 117, 105, 118] : List UInt8) := by rw [Lib.toList_data]; rfl
  have y3 : coB.toList = ([99, 111, 110, 116, 101, 110, 116] : List UInt8) := by rw [Lib.toList_data]; rfl
  have y4 : ctB.toList = ([99, 111, 110, 116, 101, 110, 116, 45, 116, 121, 112, 101] : List UInt8) := by rw [Lib.toList_data]; rfl
  have Y1 := hide (fun x => eq_lit x csB _ y1)
  have Y2 := hide (fun x => eq_lit x heB _ y2)
  have Y3 := hide (fun x => eq_lit x coB _ y3)
  have Y4 := hide (fun x => eq_lit x ctB _ y4)
  clear y1 y2 y3 y4
  go_enter Tryz.func115, Tryz.ntmps115
  go_wp2_with fail
  go_loopw [3, 4, 5, 6] (fun a b c i wr => ∃ k : Nat, k ≤ L.length ∧ i = .int .i64 ((k : Int) - 1) ∧ a = .int .i64 (sfI csB L k) ∧ b = .int .i64 (sfI heB L k) ∧ c = .int .i64 (sfI coB L k) ∧ wr = w) (fun _ _ _ i _ => (intOf i + 1).toNat)
  case atStart => exact ⟨L.length, Nat.le_refl _, rfl, by rw [sfI_end], by rw [sfI_end], by rw [sfI_end], rfl⟩
  case round =>
    obtain ⟨k, hk, rfl, rfl, rfl, rfl, hwr⟩ := hrel
    replace hwr := hwr.symm
    subst hwr
    cases k with
    | succ j =>
      have hj : j < L.length := by omega
      rw [show (((j + 1 : Nat) : Int) - 1) = (j : Int) from by omega]
      obtain ⟨b, off, rfl, hcc⟩ : ∃ b off, ao = some ⟨b, off, none⟩ ∧ ∀ i (h : i < L.length), w.cell? ⟨b, off + i * 2, none⟩ = some (.string L[i].1) ∧ w.cell? ⟨b, off + i * 2 + 1, none⟩ = some (.string L[i].2) := by
        rcases unhide HC with h | h
        · subst h; simp at hj
        · exact h
      have c1 := (hcc j hj).1
      have hbl : b < w.heap.size := World.block_lt_of_cell? w _ c1
      clear hcc
      have HX : Hid (L[j].1 = L[j].1) := hide rfl
      have S1 := hide (fun m (h : L[j].1 = m) => sfI_hit hj h)
      have S2 := hide (fun m (h : L[j].1 ≠ m) => sfI_miss (m := m) hj h)
      generalize L[j].1 = x at *
      have e1 := unhide Y1 x
      have e2 := unhide Y2 x
      have e3 := unhide Y3 x
      generalize hA : sfI csB L (j + 1) = A1 at *
      generalize hB : sfI heB L (j + 1) = A2 at *
      generalize hD : sfI coB L (j + 1) = A3 at *
      have HA := hide hA
      have HB := hide hB
      have HD := hide hD
      clear hA hB hD HX
      by_cases h1 : x = csB
      · have n2 : x ≠ heB := by rw [h1]; decide
        have n3 : x ≠ coB := by rw [h1]; decide
        rw [show decide (x = csB) = true from decide_eq_true h1] at e1
        have R1 := hide (unhide S1 _ h1)
        have R2 := hide (unhide S2 _ n2)
        have R3 := hide (unhide S2 _ n3)
        clear h1 n2 n3 e2 e3
        go_wp2_with fail
        go_roundw
        case rel => exact ⟨j, by omega, by go_num, by rw [unhide R1], by rw [unhide R2, unhide HB], by rw [unhide R3, unhide HD], by first | rfl | trivial⟩
        case measure => simp [intOf]
      · rw [show decide (x = csB) = false from decide_eq_false h1] at e1
        have R1 := hide (unhide S2 _ h1)
        by_cases h2 : x = heB
        · have n3 : x ≠ coB := by rw [h2]; decide
          rw [show decide (x = heB) = true from decide_eq_true h2] at e2
          have R2 := hide (unhide S1 _ h2)
          have R3 := hide (unhide S2 _ n3)
          clear h1 h2 n3 e3
          go_wp2_with fail
          go_roundw
          case rel => exact ⟨j, by omega, by go_num, by rw [unhide R1, unhide HA], by rw [unhide R2], by rw [unhide R3, unhide HD], by first | rfl | trivial⟩
          case measure => simp [intOf]
        · rw [show decide (x = heB) = false from decide_eq_false h2] at e2
          have R2 := hide (unhide S2 _ h2)
          by_cases h3 : x = coB
          · rw [show decide (x = coB) = true from decide_eq_true h3] at e3
            have R3 := hide (unhide S1 _ h3)
            clear h1 h2 h3
            go_wp2_with fail
            go_roundw
            case rel => exact ⟨j, by omega, by go_num, by rw [unhide R1, unhide HA], by rw [unhide R2, unhide HB], by rw [unhide R3], by first | rfl | trivial⟩
            case measure => simp [intOf]
          · rw [show decide (x = coB) = false from decide_eq_false h3] at e3
            have R3 := hide (unhide S2 _ h3)
            clear h1 h2 h3
            go_wp2_with fail
            go_roundw
            case rel => exact ⟨j, by omega, by go_num, by rw [unhide R1, unhide HA], by rw [unhide R2, unhide HB], by rw [unhide R3, unhide HD], by first | rfl | trivial⟩
            case measure => simp [intOf]
    | zero =>
      have HM : Hid (metaI L = fixE (if 0 ≤ sfI csB L 0 then findI (valAt L (sfI csB L 0)) else if 0 ≤ sfI heB L 0 ∧ 0 ≤ sfI coB L 0 ∧ valAt L (sfI heB L 0) = ctB then chsI (bl (valAt L (sfI coB L 0))) else 0)) := hide rfl
      have B1 := sfI_bd csB L 0
      have B2 := sfI_bd heB L 0
      have B3 := sfI_bd coB L 0
      generalize sfI csB L 0 = A1 at *
      generalize sfI heB L 0 = A2 at *
      generalize sfI coB L 0 = A3 at *
      rw [show (((0 : Nat) : Int) - 1) = -1 from by omega]
      rcases B1 with rfl | ⟨j1, rfl, hj1⟩
      · rcases B2 with rfl | ⟨j2, rfl, hj2⟩
        · have HZ : Hid (metaI L = 0) := hide (by rw [unhide HM]; simp [fixE])
          go_wp2_with fail
          go_ret
          exact ⟨by rw [unhide HZ]; rfl, Below.refl _ _⟩
        · rcases B3 with rfl | ⟨j3, rfl, hj3⟩
          · have HZ : Hid (metaI L = 0) := hide (by rw [unhide HM]; simp [fixE])
            go_wp2_with fail
            go_ret
            exact ⟨by rw [unhide HZ]; rfl, Below.refl _ _⟩
          · obtain ⟨b, off, rfl, hcc⟩ : ∃ b off, ao = some ⟨b, off, none⟩ ∧ ∀ i (h : i < L.length), w.cell? ⟨b, off + i * 2, none⟩ = some (.string L[i].1) ∧ w.cell? ⟨b, off + i * 2 + 1, none⟩ = some (.string L[i].2) := by
              rcases unhide HC with h | h
              · subst h; simp at hj2
              · exact h
            have c2 := (hcc j2 hj2).2
            have c3 := (hcc j3 hj3).2
            have hbl : b < w.heap.size := World.block_lt_of_cell? w _ c2
            have e4 := unhide Y4 L[j2].2
            have z3 := unhide HS L[j3] (List.getElem_mem _)
            rw [valAt_nat hj2, valAt_nat hj3] at HM
            generalize L[j2].2 = x2 at *
            generalize L[j3].2 = x3 at *
            by_cases hx : x2 = ctB
            · rw [show decide (x2 = ctB) = true from decide_eq_true hx] at e4
              have HZ : Hid (metaI L = fixE (chsI (bl x3))) := hide (by rw [unhide HM, if_neg (by omega), if_pos ⟨by omega, by omega, hx⟩])
              have HCh := hide (fun w => charsetOf_any x3 w z3)
              generalize chsI (bl x3) = n at *
              clear hx hcc
              go_wp2_with fail
              refine (unhide HCh _).mono ?_
              rintro e w1 ⟨rfl, hb1⟩
              have HB1 := hide hb1
              clear hb1
              by_cases n2 : n = 2
              · subst n2
                go_wp2_with fail
                go_ret
                exact ⟨by rw [unhide HZ]; rfl, unhide HB1⟩
              · by_cases n3 : n = 3
                · subst n3
                  go_wp2_with fail
                  go_ret
                  exact ⟨by rw [unhide HZ]; rfl, unhide HB1⟩
                · by_cases n5 : n = 5
                  · subst n5
                    go_wp2_with fail
                    go_ret
                    exact ⟨by rw [unhide HZ]; rfl, unhide HB1⟩
                  · have HF : Hid (fixE n = n) := hide (by unfold fixE; rw [if_neg (by omega), if_neg n5])
                    have n2e := ne_eq n2
                    have n3e := ne_eq n3
                    have n5e := ne_eq n5
                    clear n2 n3 n5
                    go_wp2_with fail
                    go_ret
                    exact ⟨by rw [unhide HZ, unhide HF]; rfl, unhide HB1⟩
            · rw [show decide (x2 = ctB) = false from decide_eq_false hx] at e4
              have HZ : Hid (metaI L = 0) := hide (by rw [unhide HM, if_neg (by omega), if_neg (fun h => hx h.2.2)]; simp [fixE])
              clear hx hcc
              go_wp2_with fail
              go_ret
              exact ⟨by rw [unhide HZ]; rfl, Below.refl _ _⟩
      · obtain ⟨b, off, rfl, hcc⟩ : ∃ b off, ao = some ⟨b, off, none⟩ ∧ ∀ i (h : i < L.length), w.cell? ⟨b, off + i * 2, none⟩ = some (.string L[i].1) ∧ w.cell? ⟨b, off + i * 2 + 1, none⟩ = some (.string L[i].2) := by
          rcases unhide HC with h | h
          · subst h; simp at hj1
          · exact h
        have c1 := (hcc j1 hj1).2
        have hbl : b < w.heap.size := World.block_lt_of_cell? w _ c1
        have z1 := unhide HS L[j1] (List.getElem_mem _)
        rw [valAt_nat hj1] at HM
        generalize L[j1].2 = x1 at *
        have HZ : Hid (metaI L = fixE (findI x1)) := hide (by rw [unhide HM, if_pos (by omega)])
        have HFi := hide (fun w => findOf_any x1 w z1)
        generalize findI x1 = n at *
        clear hcc
        go_wp2_with fail
        refine (unhide HFi _).mono ?_
        rintro e w1 ⟨rfl, hb1⟩
        have HB1 := hide hb1
        clear hb1
        by_cases n2 : n = 2
        · subst n2
          go_wp2_with fail
          go_ret
          exact ⟨by rw [unhide HZ]; rfl, unhide HB1⟩
        · by_cases n3 : n = 3
          · subst n3
            go_wp2_with fail
            go_ret
            exact ⟨by rw [unhide HZ]; rfl, unhide HB1⟩
          · by_cases n5 : n = 5
            · subst n5
              go_wp2_with fail
              go_ret
              exact ⟨by rw [unhide HZ]; rfl, unhide HB1⟩
            · have HF : Hid (fixE n = n) := hide (by unfold fixE; rw [if_neg (by omega), if_neg n5])
              have n2e := ne_eq n2
              have n3e := ne_eq n3
              have n5e := ne_eq n5
              clear n2 n3 n5
              go_wp2_with fail
              go_ret
              exact ⟨by rw [unhide HZ, unhide HF]; rfl, unhide HB1⟩
end Go.Proofs.YtaiinjfnkmidbaaGreatDoor

namespace Go.Proofs.YtaiinjfnkmidbaaGreatDoor
set_option linter.unusedVariables false

def isLet (c : Int) : Bool := (decide (97 ≤ c) && decide (c ≤ 122)) || (decide (65 ≤ c) && decide (c ≤ 90))
/-- The beginnings that are looked for. -/
def b4 : List Int := [60, 33, 45, 45]
def b3 : List Int := [45, 45, 62]
def b5 : List Int := [60, 109, 101, 116, 97]
def bE : List Int := [60, 33]
def bS : List Int := [60, 47]
def bQ : List Int := [60, 63]
/-- The first place from i on where a comment ends, or the end. -/
def fb : Nat → List Int → Nat → Nat
  | 0, _, i => i
  | n + 1, l, i => if bgn l i b3 = true then i else fb n l (i + 1)
def fbI (l : List Int) (i : Nat) : Nat := fb (l.length - i) l i
theorem fbI_hit {l : List Int} {i : Nat} (hi : i < l.length) (h : bgn l i b3 = true) : fbI l i = i := by
  unfold fbI; rw [show l.length - i = (l.length - i - 1) + 1 from by omega]; unfold fb; rw [if_pos h]
theorem fbI_miss {l : List Int} {i : Nat} (hi : i < l.length) (h : bgn l i b3 = false) : fbI l i = fbI l (i + 1) := by
  unfold fbI; rw [show l.length - i = (l.length - i - 1) + 1 from by omega]
  conv => lhs; unfold fb
  rw [if_neg (by simp [h])]; rfl
theorem fbI_end {l : List Int} {i : Nat} (hi : l.length ≤ i) : fbI l i = i := by
  unfold fbI; rw [show l.length - i = 0 from by omega]; rfl
theorem fbI_ge (l : List Int) : ∀ (n i : Nat), l.length - i ≤ n → i ≤ fbI l i
  | 0, i, h => by rw [fbI_end (by omega)]; exact Nat.le_refl _
  | n + 1, i, h => by
    by_cases hi : i < l.length
    · cases hb : bgn l i b3
      · rw [fbI_miss hi hb]; have := fbI_ge l n (i + 1) (by omega); omega
      · rw [fbI_hit hi hb]; exact Nat.le_refl _
    · rw [fbI_end (by omega)]; exact Nat.le_refl _
/-- The place of a tag's name, or 0. -/
def nmAt (l : List Int) (k : Nat) : Nat :=
  if l.getD k 0 = 60 then (if k + 2 < l.length ∧ l.getD (k + 1) 0 = 47 ∧ isLet (l.getD (k + 2) 0) = true then k + 2 else if k + 1 < l.length ∧ isLet (l.getD (k + 1) 0) = true then k + 1 else 0) else 0
/-- Is there a meta? -/
def isMeta (l : List Int) (k : Nat) : Bool := bgn l k b5 && (decide (k + 5 < l.length) && pAhead (l.getD (k + 5) 0))
def isDecl (l : List Int) (k : Nat) : Bool := bgn l k bE || (bgn l k bS || bgn l k bQ)
def metaAt (l : List Int) (k : Nat) : Int := metaI (txts (attrsI l (k + 5)).1)
/-- The next place to look at, where no meta tells anything. -/
def nxtP (l : List Int) (k : Nat) : Nat :=
  if bgn l k b4 = true then fbI l (k + 2) + 3
  else if isMeta l k = true then (attrsI l (k + 5)).2 + 1
  else if 0 < nmAt l k then (attrsI l (run pVal l (nmAt l k))).2 + 1
  else if isDecl l k = true then run (pNot 62) l k + 1 else k + 1
def scn : Nat → List Int → Nat → Int
  | 0, _, _ => 0
  | n + 1, l, k => if l.length ≤ k then 0 else if bgn l k b4 = false ∧ isMeta l k = true ∧ metaAt l k ≠ 0 then metaAt l k else scn n l (nxtP l k)
theorem nmAt_le {l : List Int} {k : Nat} (h : 0 < nmAt l k) : k < nmAt l k ∧ nmAt l k < l.length := by
  unfold nmAt at *
  split at h
  · rename_i c0
    rw [if_pos c0] at *
    split at h
    · rename_i c; rw [if_pos c]; omega
    · rename_i c; rw [if_neg c]
      split at h
      · rename_i c'; rw [if_pos c']; omega
      · omega
  · omega
theorem nxtP_gt {l : List Int} {k : Nat} (hk : k < l.length) : k < nxtP l k := by
  unfold nxtP
  split
  · have := fbI_ge l _ (k + 2) (Nat.le_refl _); omega
  · split
    · rename_i h
      have h5 : k + 5 < l.length := by
        unfold isMeta at h
        simp at h
        exact h.2.1
      have := attrsI_le l _ (k + 5) (Nat.le_refl _) (by omega)
      omega
    · split
      · rename_i h
        have hn := nmAt_le h
        have g := run_ge pVal l (nmAt l k)
        have e := run_le pVal l (i := nmAt l k) (by omega)
        have := attrsI_le l _ (run pVal l (nmAt l k)) (Nat.le_refl _) e
        omega
      · split
        · have := run_ge (pNot 62) l k; omega
        · omega
def scnF (l : List Int) (k : Nat) : Int := scn (l.length - k) l k
def scnI (l : List Int) : Int := scnF (l.take 256) 0
theorem scn_more : ∀ (n m : Nat) (l : List Int) (k : Nat), l.length - k ≤ n → l.length - k ≤ m → scn n l k = scn m l k
  | 0, m, l, k, hn, _ => by
    cases m with
    | zero => rfl
    | succ m => unfold scn; rw [if_pos (by omega)]
  | n + 1, 0, l, k, _, hm => by unfold scn; rw [if_pos (by omega)]
  | n + 1, m + 1, l, k, hn, hm => by
    unfold scn
    split
    · rfl
    · split
      · rfl
      · have := nxtP_gt (l := l) (k := k) (by omega)
        exact scn_more n m l _ (by omega) (by omega)
theorem scnF_end {l : List Int} {k : Nat} (h : l.length ≤ k) : scnF l k = 0 := by
  unfold scnF; rw [show l.length - k = 0 from by omega]; rfl
theorem scnF_meta {l : List Int} {k : Nat} (hk : k < l.length) (h4 : bgn l k b4 = false) (hm : isMeta l k = true) (hn : metaAt l k ≠ 0) : scnF l k = metaAt l k := by
  unfold scnF; rw [show l.length - k = (l.length - k - 1) + 1 from by omega]; unfold scn
  rw [if_neg (by omega), if_pos ⟨h4, hm, hn⟩]
theorem scnF_next {l : List Int} {k a : Nat} (hk : k < l.length) (hn : ¬ (bgn l k b4 = false ∧ isMeta l k = true ∧ metaAt l k ≠ 0)) (ha : nxtP l k = a) : scnF l k = scnF l a := by
  have hg := nxtP_gt hk
  unfold scnF; rw [show l.length - k = (l.length - k - 1) + 1 from by omega]
  conv => lhs; unfold scn
  rw [if_neg (by omega), if_neg hn, ha]
  exact scn_more _ _ l a (by omega) (by omega)
end Go.Proofs.YtaiinjfnkmidbaaGreatDoor

namespace Go.Proofs.YtaiinjfnkmidbaaGreatDoor

theorem lk_in : ∀ (l : List (ByteArray × Int)) (s : ByteArray), lk l s = 0 ∨ ∃ x ∈ l, lk l s = x.2
  | [], _ => .inl rfl
  | x :: t, s => by
    unfold lk
    split
    · exact .inr ⟨x, List.mem_cons_self, rfl⟩
    · rcases lk_in t s with h | ⟨y, hy, h⟩
      · exact .inl h
      · exact .inr ⟨y, List.mem_cons_of_mem _ hy, h⟩
theorem labs_bd : ∀ x ∈ labs, 0 ≤ x.2 ∧ x.2 ≤ 7 := by decide
theorem findI_bd (s : ByteArray) : 0 ≤ findI s ∧ findI s ≤ 7 := by
  unfold findI
  rcases lk_in labs (strOfNums (fdI (trI (bl s)))) with h | ⟨x, hx, h⟩
  · rw [h]; decide
  · rw [h]; exact labs_bd x hx
theorem chs_bd : ∀ (n : Nat) (l : List Int) (k : Nat), 0 ≤ chs n l k ∧ chs n l k ≤ 7
  | 0, l, k => by unfold chs; decide
  | n + 1, l, k => by
    unfold chs
    split
    · decide
    · split
      · exact chs_bd n l _
      · split
        · exact chs_bd n l _
        · split
          · split
            · decide
            · exact findI_bd _
          · exact findI_bd _
/-- Which answers there are. -/
def toldE (n : Int) : Prop := 0 ≤ n ∧ n ≤ 7 ∧ n ≠ 2 ∧ n ≠ 3 ∧ n ≠ 5
theorem fixE_told {n : Int} (h : 0 ≤ n ∧ n ≤ 7) : toldE (fixE n) := by
  unfold fixE toldE
  split
  · decide
  · split
    · decide
    · omega
theorem metaI_told (L : List (ByteArray × ByteArray)) : toldE (metaI L) := by
  unfold metaI
  refine fixE_told ?_
  split
  · exact findI_bd _
  · split
    · exact chs_bd _ _ _
    · decide
theorem scn_told : ∀ (n : Nat) (l : List Int) (k : Nat), toldE (scn n l k)
  | 0, l, k => by unfold scn toldE; decide
  | n + 1, l, k => by
    unfold scn
    split
    · unfold toldE; decide
    · split
      · exact metaI_told _
      · exact scn_told n l _
theorem scnI_told (l : List Int) : toldE (scnI l) := scn_told _ _ _
/-- What stands behind 256 bytes is not seen. -/
theorem scnI_more {l m : List Int} (h : 256 ≤ l.length) : scnI (l ++ m) = scnI l := by
  unfold scnI; rw [List.take_append_of_le_length h]
end Go.Proofs.YtaiinjfnkmidbaaGreatDoor

namespace Go.Proofs.YtaiinjfnkmidbaaGreatDoor.M

def run {σ : Type} (f : σ → List Int → Option (List Int × Nat × σ)) : Nat → σ → List Int → List Int × σ × List Int
  | 0, s, l => ([], s, l)
  | n + 1, s, l => match f s l with
    | none => ([], s, l)
    | some (o, k, s') => (o ++ (run f n s' (l.drop k)).1, (run f n s' (l.drop k)).2)

structure Steps {σ : Type} (f : σ → List Int → Option (List Int × Nat × σ)) : Prop where
  size : ∀ s l o k s', f s l = some (o, k, s') → 1 ≤ k ∧ k ≤ l.length
  stay : ∀ s l t r, f s l = some r → f s (l ++ t) = some r

section
variable {σ : Type} {f : σ → List Int → Option (List Int × Nat × σ)} (hf : Steps f)
include hf

theorem Steps.nil (s : σ) : f s [] = none := by
  cases h : f s [] with
  | none => rfl
  | some r =>
    obtain ⟨o, k, s'⟩ := r
    have := hf.size s [] o k s' h
    simp at this
    omega

theorem run_fuel : ∀ (n m : Nat) (s : σ) (l : List Int), l.length ≤ n → l.length ≤ m → run f n s l = run f m s l := by
  intro n
  induction n with
  | zero =>
    intro m s l h1 h2
    have : l = [] := List.eq_nil_of_length_eq_zero (by omega)
    subst this
    cases m with
    | zero => rfl
    | succ m => simp [run, hf.nil]
  | succ n ih =>
    intro m s l h1 h2
    cases m with
    | zero =>
      have : l = [] := List.eq_nil_of_length_eq_zero (by omega)
      subst this
      simp [run, hf.nil]
    | succ m =>
      simp only [run]
      cases h : f s l with
      | none => rfl
      | some r =>
        obtain ⟨o, k, s'⟩ := r
        have hs := hf.size s l o k s' h
        simp only
        rw [ih m s' (l.drop k) (by simp; omega) (by simp; omega)]
end

def Run {σ : Type} (f : σ → List Int → Option (List Int × Nat × σ)) (s : σ) (l : List Int) : List Int × σ × List Int := run f l.length s l

section
variable {σ : Type} {f : σ → List Int → Option (List Int × Nat × σ)}
theorem Run_wait {s : σ} {l : List Int} (h : f s l = none) : Run f s l = ([], s, l) := by
  unfold Run
  cases hl : l.length with
  | zero => rfl
  | succ n => simp [run, h]
theorem Run_step (hf : Steps f) {s s' : σ} {l o : List Int} {k : Nat} (h : f s l = some (o, k, s')) : Run f s l = (o ++ (Run f s' (l.drop k)).1, (Run f s' (l.drop k)).2) := by
  have hs := hf.size s l o k s' h
  unfold Run
  obtain ⟨n, hn⟩ : ∃ n, l.length = n + 1 := ⟨l.length - 1, by omega⟩
  rw [hn]
  simp only [run, h]
  rw [run_fuel hf n (l.drop k).length s' (l.drop k) (by simp; omega) (Nat.le_refl _)]
theorem Run_ind {C : σ → List Int → Prop} (hf : Steps f) (h0 : ∀ s l, f s l = none → C s l) (h1 : ∀ s l o k s', f s l = some (o, k, s') → C s' (l.drop k) → C s l) : ∀ s l, C s l := by
  have : ∀ (n : Nat) s l, l.length ≤ n → C s l := by
    intro n
    induction n with
    | zero =>
      intro s l h
      have : l = [] := List.eq_nil_of_length_eq_zero (by omega)
      subst this
      exact h0 s [] (hf.nil s)
    | succ n ih =>
      intro s l h
      cases hq : f s l with
      | none => exact h0 s l hq
      | some r =>
        obtain ⟨o, k, s'⟩ := r
        have hs := hf.size s l o k s' hq
        exact h1 s l o k s' hq (ih s' (l.drop k) (by simp; omega))
  exact fun s l => this l.length s l (Nat.le_refl _)
/-- What is left waits. -/
theorem Run_left (hf : Steps f) (s : σ) (l : List Int) : f (Run f s l).2.1 (Run f s l).2.2 = none := by
  refine Run_ind (C := fun s l => f (Run f s l).2.1 (Run f s l).2.2 = none) hf ?_ ?_ s l
  · intro s l h; rw [Run_wait h]; exact h
  · intro s l o k s' h ih; rw [Run_step hf h]; exact ih
theorem Run_end (hf : Steps f) (s : σ) (l : List Int) : ∃ n, (Run f s l).2.2 = l.drop n ∧ n ≤ l.length := by
  refine Run_ind (C := fun s l => ∃ n, (Run f s l).2.2 = l.drop n ∧ n ≤ l.length) hf ?_ ?_ s l
  · intro s l h; rw [Run_wait h]; exact ⟨0, rfl, Nat.zero_le _⟩
  · intro s l o k s' h ih
    obtain ⟨n, e, hn⟩ := ih
    have hs := hf.size s l o k s' h
    rw [Run_step hf h]
    refine ⟨k + n, ?_, ?_⟩
    · show (Run f s' (l.drop k)).2.2 = _; rw [e, List.drop_drop]
    · simp at hn; omega
/-- Two parts, one behind the other. -/
theorem Run_app (hf : Steps f) (s : σ) (l t : List Int) : Run f s (l ++ t) = ((Run f s l).1 ++ (Run f (Run f s l).2.1 ((Run f s l).2.2 ++ t)).1, (Run f (Run f s l).2.1 ((Run f s l).2.2 ++ t)).2) := by
  refine Run_ind (C := fun s l => Run f s (l ++ t) = ((Run f s l).1 ++ (Run f (Run f s l).2.1 ((Run f s l).2.2 ++ t)).1, (Run f (Run f s l).2.1 ((Run f s l).2.2 ++ t)).2)) hf ?_ ?_ s l
  · intro s l h; rw [Run_wait h]; simp
  · intro s l o k s' h ih
    have hs := hf.size s l o k s' h
    rw [Run_step hf h, Run_step hf (hf.stay s l t _ h), List.drop_append_of_le_length hs.2, ih]
    simp [List.append_assoc]
end
end Go.Proofs.YtaiinjfnkmidbaaGreatDoor.M

namespace Go.Proofs.YtaiinjfnkmidbaaGreatDoor.M

theorem nxt_1 {c : Int} (t : List Int) (h : c < 128) : nxt (c :: t) = (c, 1, false) := by
  have e1 : bSize c = 1 := by unfold bSize; rw [if_pos h]
  have e2 : bBits c = c := by unfold bBits; rw [if_pos h]
  simp [nxt, e1, e2, go]

theorem nxt_0 {c : Int} (t : List Int) (h : (128 ≤ c ∧ c < 194) ∨ 245 ≤ c) : nxt (c :: t) = (65533, 1, false) := by
  have e1 : bSize c = 0 := by unfold bSize; omega
  simp [nxt, e1]

theorem size2 {c : Int} (h : 194 ≤ c) (h' : c < 224) : bSize c = 2 ∧ bBits c = c % 32 ∧ bLow c = 128 ∧ bHigh c = 191 := by
  unfold bSize bBits bLow bHigh; omega
theorem size3 {c : Int} (h : 224 ≤ c) (h' : c < 240) : bSize c = 3 ∧ bBits c = c % 16 ∧ 128 ≤ bLow c ∧ bHigh c ≤ 191 ∧ (c = 224 → bLow c = 160) ∧ (c ≠ 224 → bLow c = 128) ∧ (c = 237 → bHigh c = 159) ∧ (c ≠ 237 → bHigh c = 191) := by
  unfold bSize bBits bLow bHigh; omega
theorem size4 {c : Int} (h : 240 ≤ c) (h' : c < 245) : bSize c = 4 ∧ bBits c = c % 8 ∧ 128 ≤ bLow c ∧ bHigh c ≤ 191 ∧ (c = 240 → bLow c = 144) ∧ (c ≠ 240 → bLow c = 128) ∧ (c = 244 → bHigh c = 143) ∧ (c ≠ 244 → bHigh c = 191) := by
  unfold bSize bBits bLow bHigh; omega

theorem nxt_2 {c : Int} (t : List Int) (h : 194 ≤ c) (h' : c < 224) : nxt (c :: t) = go 1 1 (c % 32) 128 191 t := by
  obtain ⟨a, b, d, e⟩ := size2 h h'
  simp [nxt, a, b, d, e]
theorem nxt_3 {c : Int} (t : List Int) (h : 224 ≤ c) (h' : c < 240) : ∃ lo hi, nxt (c :: t) = go 2 1 (c % 16) lo hi t ∧ 128 ≤ lo ∧ hi ≤ 191 ∧ (c = 224 → lo = 160) ∧ (c ≠ 224 → lo = 128) ∧ (c = 237 → hi = 159) ∧ (c ≠ 237 → hi = 191) := by
  obtain ⟨a, b, d⟩ := size3 h h'
  exact ⟨bLow c, bHigh c, by simp [nxt, a, b], d⟩
theorem nxt_4 {c : Int} (t : List Int) (h : 240 ≤ c) (h' : c < 245) : ∃ lo hi, nxt (c :: t) = go 3 1 (c % 8) lo hi t ∧ 128 ≤ lo ∧ hi ≤ 191 ∧ (c = 240 → lo = 144) ∧ (c ≠ 240 → lo = 128) ∧ (c = 244 → hi = 143) ∧ (c ≠ 244 → hi = 191) := by
  obtain ⟨a, b, d⟩ := size4 h h'
  exact ⟨bLow c, bHigh c, by simp [nxt, a, b], d⟩

def Byt (l : List Int) : Prop := ∀ x ∈ l, 0 ≤ x ∧ x ≤ 255

theorem enc1_1 {n : Int} (h : n < 128) : enc1 n = [n] := by unfold enc1; rw [if_pos h]
theorem enc1_2 {n : Int} (h : 128 ≤ n) (h' : n < 2048) : enc1 n = [192 + n / 64, 128 + n % 64] := by unfold enc1; rw [if_neg (by omega), if_pos h']
theorem enc1_3 {n : Int} (h : 2048 ≤ n) (h' : n < 65536) : enc1 n = [224 + n / 4096, 128 + n / 64 % 64, 128 + n % 64] := by unfold enc1; rw [if_neg (by omega), if_neg (by omega), if_pos h']
theorem enc1_4 {n : Int} (h : 65536 ≤ n) : enc1 n = [240 + n / 262144, 128 + n / 4096 % 64, 128 + n / 64 % 64, 128 + n % 64] := by unfold enc1; rw [if_neg (by omega), if_neg (by omega), if_neg (by omega)]

theorem sclr_iff (n : Int) : sclr n = true ↔ 0 ≤ n ∧ n ≤ 1114111 ∧ (n < 55296 ∨ 57343 < n) := by simp [sclr]

/-- A piece is a scalar's bytes, or a Bad. -/
theorem nxt_cases (l : List Int) (hl : l ≠ []) (hb : Byt l) :
    (∃ p r, sclr p = true ∧ l = enc1 p ++ r ∧ nxt l = (p, ((enc1 p).length : Int), false)) ∨ (nxt l).1 = 65533 := by
  cases l with
  | nil => exact absurd rfl hl
  | cons c t =>
    have hc : 0 ≤ c ∧ c ≤ 255 := hb c (by simp)
    rcases (show c < 128 ∨ ((128 ≤ c ∧ c < 194) ∨ 245 ≤ c) ∨ (194 ≤ c ∧ c < 224) ∨ (224 ≤ c ∧ c < 240) ∨ (240 ≤ c ∧ c < 245) from by omega) with h | h | ⟨h, h'⟩ | ⟨h, h'⟩ | ⟨h, h'⟩
    · refine .inl ⟨c, t, (sclr_iff c).2 (by omega), by rw [enc1_1 h]; rfl, by rw [nxt_1 t h, enc1_1 h]; rfl⟩
    · exact .inr (by rw [nxt_0 t h])
    · rw [nxt_2 t h h']
      cases t with
      | nil => exact .inr (by simp [go])
      | cons c1 t1 =>
        simp only [go]
        split
        · exact .inr rfl
        · have e := enc1_2 (n := c % 32 * 64 + c1 % 64) (by omega) (by omega)
          refine .inl ⟨c % 32 * 64 + c1 % 64, t1, (sclr_iff _).2 (by omega), ?_, by rw [e]; rfl⟩
          rw [e, show 192 + (c % 32 * 64 + c1 % 64) / 64 = c from by omega, show 128 + (c % 32 * 64 + c1 % 64) % 64 = c1 from by omega]; rfl
    · obtain ⟨lo, hi, e0, l1, l2, l3, l4, l5, l6⟩ := nxt_3 t h h'
      rw [e0]; clear e0
      cases t with
      | nil => exact .inr (by simp [go])
      | cons c1 t1 =>
        simp only [go]
        split
        · exact .inr rfl
        · rename_i g1
          cases t1 with
          | nil => exact .inr (by simp [go])
          | cons c2 t2 =>
            simp only [go]
            split
            · exact .inr rfl
            · rename_i g2
              have k1 : 2048 ≤ (c % 16 * 64 + c1 % 64) * 64 + c2 % 64 ∧ (c % 16 * 64 + c1 % 64) * 64 + c2 % 64 < 65536 ∧ ((c % 16 * 64 + c1 % 64) * 64 + c2 % 64 < 55296 ∨ 57343 < (c % 16 * 64 + c1 % 64) * 64 + c2 % 64) := by
                omega
              have k2 : 128 ≤ c1 ∧ c1 ≤ 191 := by omega
              have e := enc1_3 (n := (c % 16 * 64 + c1 % 64) * 64 + c2 % 64) (by omega) (by omega)
              refine .inl ⟨(c % 16 * 64 + c1 % 64) * 64 + c2 % 64, t2, (sclr_iff _).2 (by omega), ?_, by rw [e]; rfl⟩
              rw [e, show 224 + ((c % 16 * 64 + c1 % 64) * 64 + c2 % 64) / 4096 = c from by omega, show 128 + ((c % 16 * 64 + c1 % 64) * 64 + c2 % 64) / 64 % 64 = c1 from by omega,
                show 128 + ((c % 16 * 64 + c1 % 64) * 64 + c2 % 64) % 64 = c2 from by omega]; rfl
    · obtain ⟨lo, hi, e0, l1, l2, l3, l4, l5, l6⟩ := nxt_4 t h h'
      rw [e0]; clear e0
      cases t with
      | nil => exact .inr (by simp [go])
      | cons c1 t1 =>
        simp only [go]
        split
        · exact .inr rfl
        · rename_i g1
          cases t1 with
          | nil => exact .inr (by simp [go])
          | cons c2 t2 =>
            simp only [go]
            split
            · exact .inr rfl
            · rename_i g2
              cases t2 with
              | nil => exact .inr (by simp [go])
              | cons c3 t3 =>
                simp only [go]
                split
                · exact .inr rfl
                · rename_i g3
                  have k1 : 65536 ≤ ((c % 8 * 64 + c1 % 64) * 64 + c2 % 64) * 64 + c3 % 64 ∧ ((c % 8 * 64 + c1 % 64) * 64 + c2 % 64) * 64 + c3 % 64 ≤ 1114111 := by
                    omega
                  have k2 : 128 ≤ c1 ∧ c1 ≤ 191 := by omega
                  have e := enc1_4 (n := ((c % 8 * 64 + c1 % 64) * 64 + c2 % 64) * 64 + c3 % 64) (by omega)
                  refine .inl ⟨((c % 8 * 64 + c1 % 64) * 64 + c2 % 64) * 64 + c3 % 64, t3, (sclr_iff _).2 (by omega), ?_, by rw [e]; rfl⟩
                  rw [e, show 240 + (((c % 8 * 64 + c1 % 64) * 64 + c2 % 64) * 64 + c3 % 64) / 262144 = c from by omega, show 128 + (((c % 8 * 64 + c1 % 64) * 64 + c2 % 64) * 64 + c3 % 64) / 4096 % 64 = c1 from by omega,
                    show 128 + (((c % 8 * 64 + c1 % 64) * 64 + c2 % 64) * 64 + c3 % 64) / 64 % 64 = c2 from by omega, show 128 + (((c % 8 * 64 + c1 % 64) * 64 + c2 % 64) * 64 + c3 % 64) % 64 = c3 from by omega]; rfl

/-- A scalar's bytes are a piece. -/
theorem nxt_enc1 (p : Int) (t : List Int) (hp : sclr p = true) : nxt (enc1 p ++ t) = (p, ((enc1 p).length : Int), false) := by
  have h := (sclr_iff p).1 hp
  rcases (show p < 128 ∨ (128 ≤ p ∧ p < 2048) ∨ (2048 ≤ p ∧ p < 65536) ∨ 65536 ≤ p from by omega) with g | ⟨g, g'⟩ | ⟨g, g'⟩ | g
  · rw [enc1_1 g]; exact nxt_1 t g
  · rw [enc1_2 g g']
    show nxt ((192 + p / 64) :: (128 + p % 64) :: t) = _
    rw [nxt_2 _ (by omega) (by omega)]
    simp only [go]
    rw [if_neg (by omega)]
    simp only [List.length_cons, List.length_nil]
    congr 1
    omega
  · rw [enc1_3 g g']
    show nxt ((224 + p / 4096) :: (128 + p / 64 % 64) :: (128 + p % 64) :: t) = _
    obtain ⟨lo, hi, e0, l1, l2, l3, l4, l5, l6⟩ := nxt_3 (c := 224 + p / 4096) ((128 + p / 64 % 64) :: (128 + p % 64) :: t) (by omega) (by omega)
    rw [e0]; clear e0
    simp only [go]
    rw [if_neg (by omega), if_neg (by omega)]
    simp only [List.length_cons, List.length_nil]
    congr 1
    omega
  · rw [enc1_4 g]
    show nxt ((240 + p / 262144) :: (128 + p / 4096 % 64) :: (128 + p / 64 % 64) :: (128 + p % 64) :: t) = _
    obtain ⟨lo, hi, e0, l1, l2, l3, l4, l5, l6⟩ := nxt_4 (c := 240 + p / 262144) ((128 + p / 4096 % 64) :: (128 + p / 64 % 64) :: (128 + p % 64) :: t) (by omega) (by omega)
    rw [e0]; clear e0
    simp only [go]
    rw [if_neg (by omega), if_neg (by omega), if_neg (by omega)]
    simp only [List.length_cons, List.length_nil]
    congr 1
    omega

/-- An induction on the pieces of a text. -/
theorem piece_ind {C : List Int → Prop} (h0 : C []) (h1 : ∀ l, l ≠ [] → C (l.drop (nxt l).2.1.toNat) → C l) (l : List Int) : C l := by
  have key : ∀ n (l : List Int), l.length ≤ n → C l := by
    intro n
    induction n with
    | zero => intro l h; have : l = [] := List.eq_nil_of_length_eq_zero (by omega); subst this; exact h0
    | succ n ih =>
      intro l h
      by_cases hl : l = []
      · subst hl; exact h0
      · refine h1 l hl (ih _ ?_)
        have := nxt_size' l (List.length_pos_iff.2 hl)
        rw [List.length_drop]; omega
  exact key l.length l (Nat.le_refl _)

theorem Byt.drop {l : List Int} (h : Byt l) (n : Nat) : Byt (l.drop n) := fun x hx => h x (List.mem_of_mem_drop hx)

theorem dec_nil : dec [] = [] := rfl
theorem dec_ne {l : List Int} (h : l ≠ []) : dec l = (nxt l).1 :: dec (l.drop (nxt l).2.1.toNat) := by
  unfold dec; rw [pieces_ne h]; rfl

theorem dec_sclr (l : List Int) (hb : Byt l) : (dec l).all sclr = true := by
  revert hb
  refine piece_ind (C := fun l => Byt l → (dec l).all sclr = true) (fun _ => rfl) ?_ l
  intro l hl ih hb
  rw [dec_ne hl, List.all_cons, ih (hb.drop _), Bool.and_true]
  rcases nxt_cases l hl hb with ⟨p, r, hp, _, e⟩ | e
  · rw [e]; exact hp
  · rw [e]; rfl

end Go.Proofs.YtaiinjfnkmidbaaGreatDoor.M

namespace Go.Proofs.YtaiinjfnkmidbaaGreatDoor.M

theorem enc1_byt (p : Int) (h : sclr p = true) : Byt (enc1 p) := by
  have h := (sclr_iff p).1 h
  intro x hx
  rcases (show p < 128 ∨ (128 ≤ p ∧ p < 2048) ∨ (2048 ≤ p ∧ p < 65536) ∨ 65536 ≤ p from by omega) with g | ⟨g, g'⟩ | ⟨g, g'⟩ | g
  · rw [enc1_1 g] at hx; simp at hx; omega
  · rw [enc1_2 g g'] at hx; simp at hx; omega
  · rw [enc1_3 g g'] at hx; simp at hx; omega
  · rw [enc1_4 g] at hx; simp at hx; omega

theorem enc_cons (p : Int) (l : List Int) : enc (p :: l) = enc1 p ++ enc l := by simp [enc]

theorem enc_byt (l : List Int) (h : l.all sclr = true) : Byt (enc l) := by
  induction l with
  | nil => intro x hx; simp [enc] at hx
  | cons p l ih =>
    rw [List.all_cons, Bool.and_eq_true] at h
    rw [enc_cons]
    intro x hx
    rcases List.mem_append.1 hx with hx | hx
    · exact enc1_byt p h.1 x hx
    · exact ih h.2 x hx

theorem dec_enc (l : List Int) (h : l.all sclr = true) : dec (enc l) = l := by
  induction l with
  | nil => rfl
  | cons p l ih =>
    rw [List.all_cons, Bool.and_eq_true] at h
    have hl := enc1_len p
    have hne : enc1 p ++ enc l ≠ [] := fun e => by have := congrArg List.length e; simp at this; rw [this.1] at hl; simp at hl
    rw [enc_cons, dec_ne hne, nxt_enc1 p _ h.1]
    simp only [Int.toNat_natCast]
    rw [List.drop_left, ih h.2]

end Go.Proofs.YtaiinjfnkmidbaaGreatDoor.M

namespace Go.Proofs.YtaiinjfnkmidbaaGreatDoor.M

theorem go_open : ∀ (r : Nat) (i p lo hi : Int) (l : List Int) (q j : Int), go r i p lo hi l = (q, j, true) → q = 65533 ∧ j = i + l.length ∧ l.length < r := by
  intro r
  induction r with
  | zero => intro i p lo hi l q j h; simp [go] at h
  | succ r ih =>
    intro i p lo hi l q j h
    cases l with
    | nil => simp [go] at h; simp; omega
    | cons c t =>
      simp only [go] at h
      split at h
      · simp at h
      · have := ih _ _ _ _ _ _ _ h
        simp only [List.length_cons]
        omega

theorem go_local : ∀ (r : Nat) (i p lo hi : Int) (l t : List Int) (q j : Int), go r i p lo hi l = (q, j, false) → go r i p lo hi (l ++ t) = (q, j, false) := by
  intro r
  induction r with
  | zero => intro i p lo hi l t q j h; simpa [go] using h
  | succ r ih =>
    intro i p lo hi l t q j h
    cases l with
    | nil => simp [go] at h
    | cons c l' =>
      simp only [go, List.cons_append] at h ⊢
      split at h
      · rename_i g; rw [if_pos g]; exact h
      · rename_i g; rw [if_neg g]; exact ih _ _ _ _ _ _ _ _ h

theorem go_prefix : ∀ (r : Nat) (i p lo hi : Int) (m v : List Int) (q j : Int), go r i p lo hi (m ++ v) = (q, j, false) → j ≤ i + m.length →
    (go r i p lo hi m).1 = q ∧ (go r i p lo hi m).2.1 = j := by
  intro r
  induction r with
  | zero => intro i p lo hi m v q j h _; simp [go] at h; simp [go, h]
  | succ r ih =>
    intro i p lo hi m v q j h hj
    cases m with
    | nil =>
      simp only [List.nil_append] at h
      cases v with
      | nil => simp [go] at h
      | cons c v' =>
        simp only [go] at h
        split at h
        · simp at h; simp [go]; omega
        · have := go_size r (i + 1) (p * 64 + c % 64) 128 191 v'
          rw [h] at this
          simp at hj this
          omega
    | cons c m' =>
      simp only [go, List.cons_append] at h ⊢
      split at h
      · rename_i g; rw [if_pos g]; simp at h; simp; omega
      · rename_i g; rw [if_neg g]
        refine ih _ _ _ _ _ _ _ _ h ?_
        simp at hj
        omega

theorem nxt_open {l : List Int} {q j : Int} (h : nxt l = (q, j, true)) : q = 65533 ∧ j = l.length ∧ j ≤ 3 ∧ 1 ≤ j := by
  cases l with
  | nil => simp [nxt] at h
  | cons c t =>
    simp only [nxt] at h
    have hb := bSize_bd c
    split at h
    · simp at h
    · have := go_open _ _ _ _ _ _ _ _ h
      simp only [List.length_cons]
      omega

theorem nxt_local {l : List Int} (t : List Int) {q j : Int} (hl : l ≠ []) (h : nxt l = (q, j, false)) : nxt (l ++ t) = (q, j, false) := by
  cases l with
  | nil => exact absurd rfl hl
  | cons c l' =>
    simp only [nxt, List.cons_append] at h ⊢
    split at h
    · rename_i g; rw [if_pos g]; exact h
    · rename_i g; rw [if_neg g]; exact go_local _ _ _ _ _ _ _ _ _ h

theorem nxt_prefix {m v : List Int} {q j : Int} (hm : m ≠ []) (h : nxt (m ++ v) = (q, j, false)) (hj : j ≤ m.length) : (nxt m).1 = q ∧ (nxt m).2.1 = j := by
  cases m with
  | nil => exact absurd rfl hm
  | cons c m' =>
    simp only [nxt, List.cons_append] at h ⊢
    split at h
    · rename_i g; rw [if_pos g]; simp at h; simp; omega
    · rename_i g; rw [if_neg g]
      exact go_prefix _ _ _ _ _ _ _ _ _ h (by simp at hj; omega)

theorem spl_ne {l : List Int} (h : l ≠ []) (ho : (nxt l).2.2 = false) : spl l = spl (l.drop (nxt l).2.1.toNat) := by
  unfold spl lft
  rw [pieces_ne h, List.foldl_cons, ho]
  simp

/-- Where a text may be cut. -/
theorem cut_ex (l : List Int) : ∃ l1 l2, l = l1 ++ l2 ∧ (l2.length : Int) = spl l ∧ l2.length ≤ 3 ∧ (l2 = [] ∨ nxt l2 = (65533, (l2.length : Int), true)) ∧ ∀ t, dec (l ++ t) = dec l1 ++ dec (l2 ++ t) := by
  refine piece_ind (C := fun l => ∃ l1 l2, l = l1 ++ l2 ∧ (l2.length : Int) = spl l ∧ l2.length ≤ 3 ∧ (l2 = [] ∨ nxt l2 = (65533, (l2.length : Int), true)) ∧ ∀ t, dec (l ++ t) = dec l1 ++ dec (l2 ++ t)) ?_ ?_ l
  · exact ⟨[], [], rfl, rfl, by simp, .inl rfl, fun t => rfl⟩
  · intro l hl ih
    obtain ⟨q, j, o, hn⟩ : ∃ q j o, nxt l = (q, j, o) := ⟨_, _, _, rfl⟩
    have hs := nxt_size' l (List.length_pos_iff.2 hl)
    rw [hn] at hs ih
    simp only [] at hs ih
    cases o
    · obtain ⟨r1, r2, e1, e2, e3, e4, e5⟩ := ih
      have hsp : spl l = spl (l.drop j.toNat) := by have := spl_ne hl (by rw [hn]); rw [hn] at this; exact this
      have ht : (l.take j.toNat).length = j.toNat := by rw [List.length_take]; omega
      have hne : l.take j.toNat ++ r1 ≠ [] := fun e => by
        have := congrArg List.length e
        rw [List.length_append, ht] at this
        simp at this
        omega
      have el : l = (l.take j.toNat ++ r1) ++ r2 := by
        rw [List.append_assoc, ← e1, List.take_append_drop]
      have hp := nxt_prefix (m := l.take j.toNat ++ r1) (v := r2) hne (by rw [← el]; exact hn) (by rw [List.length_append, ht]; omega)
      refine ⟨l.take j.toNat ++ r1, r2, el, by rw [hsp]; exact e2, e3, e4, fun t => ?_⟩
      have hlt : l ++ t ≠ [] := by simp [hl]
      rw [dec_ne hlt, nxt_local t hl hn, dec_ne hne, hp.1, hp.2]
      simp only [List.cons_append]
      congr 1
      rw [List.drop_append_of_le_length (by omega), e5 t]
      congr 2
      rw [List.drop_append_of_le_length (by rw [ht]; exact Nat.le_refl _), List.drop_of_length_le (by rw [ht]; exact Nat.le_refl _)]
      rfl
    · have ho := nxt_open hn
      refine ⟨[], l, rfl, ?_, by omega, .inr ?_, fun t => rfl⟩
      · unfold spl lft
        rw [pieces_ne hl, hn, List.foldl_cons]
        simp only [if_true]
        rw [List.drop_of_length_le (by omega), pieces_nil]
        simp; omega
      · rw [hn, ho.1, ho.2.1]

/-- What the law on parts asks of what is left. -/
theorem cut_at (l : List Int) : ∃ n : Nat, spl l = n ∧ n ≤ 3 ∧ n ≤ l.length ∧ (n ≠ 0 → dec (l.drop (l.length - n)) = [65533]) ∧ ∀ t, dec (l ++ t) = dec (l.take (l.length - n)) ++ dec (l.drop (l.length - n) ++ t) := by
  obtain ⟨l1, l2, e1, e2, e3, e4, e5⟩ := cut_ex l
  have hlen : l.length - l2.length = l1.length := by rw [e1, List.length_append]; omega
  refine ⟨l2.length, e2.symm, e3, by rw [e1, List.length_append]; omega, fun h => ?_, fun t => ?_⟩
  · rw [hlen, show l.drop l1.length = l2 from by rw [e1]; exact List.drop_left]
    rcases e4 with e4 | e4
    · rw [e4] at h; simp at h
    · have hne : l2 ≠ [] := fun e => h (by rw [e]; rfl)
      rw [dec_ne hne, e4]
      simp only [Int.toNat_natCast]
      rw [List.drop_of_length_le (Nat.le_refl _)]; rfl
  · rw [hlen, show l.drop l1.length = l2 from by rw [e1]; exact List.drop_left, show l.take l1.length = l1 from by rw [e1]; exact List.take_left]
    exact e5 t
end Go.Proofs.YtaiinjfnkmidbaaGreatDoor.M

namespace Go.Proofs.YtaiinjfnkmidbaaGreatDoor.M

def ut (big : Bool) (a b : Int) : Int := if big then a * 256 + b else b * 256 + a
def fst16 (u : Int) : Bool := decide (55296 ≤ u ∧ u < 56320)
def snd16 (u : Int) : Bool := decide (56320 ≤ u ∧ u < 57344)
def aln (u : Int) : Int := if snd16 u then 65533 else u

/-- What is told at the beginning, and by how many bytes. -/
def nx16 (big : Bool) : List Int → Int × Nat
  | [] => (65533, 1)
  | [_] => (65533, 1)
  | [a, b] => if fst16 (ut big a b) then (65533, 2) else (aln (ut big a b), 2)
  | [a, b, _] => if fst16 (ut big a b) then (65533, 3) else (aln (ut big a b), 2)
  | a :: b :: c :: d :: _ => if fst16 (ut big a b) then (if snd16 (ut big c d) then (65536 + (ut big a b - 55296) * 1024 + (ut big c d - 56320), 4) else (65533, 2)) else (aln (ut big a b), 2)

def run16 (big : Bool) : Nat → List Int → List Int
  | 0, _ => []
  | _ + 1, [] => []
  | n + 1, c :: t => (nx16 big (c :: t)).1 :: run16 big n ((c :: t).drop (nx16 big (c :: t)).2)

theorem nx16_size (big : Bool) (l : List Int) (h : l ≠ []) : 1 ≤ (nx16 big l).2 ∧ (nx16 big l).2 ≤ 4 ∧ (nx16 big l).2 ≤ l.length := by
  match l, h with
  | [_], _ => simp [nx16]
  | [a, b], _ => simp only [nx16]; split <;> simp
  | [a, b, c], _ => simp only [nx16]; split <;> simp
  | a :: b :: c :: d :: t, _ => simp only [nx16]; split <;> (try split) <;> simp <;> omega

theorem run16_fuel (big : Bool) : ∀ (n m : Nat) (l : List Int), l.length ≤ n → l.length ≤ m → run16 big n l = run16 big m l := by
  intro n
  induction n with
  | zero => intro m l h1 h2; have : l = [] := by cases l with | nil => rfl | cons => simp at h1
            subst this; cases m <;> simp [run16]
  | succ n ih =>
    intro m l h1 h2
    cases l with
    | nil => cases m <;> simp [run16]
    | cons c t =>
      cases m with
      | zero => simp at h2
      | succ m =>
        simp only [run16]
        have hs := nx16_size big (c :: t) (by simp)
        rw [ih m]
        · simp only [List.length_drop]; simp only [List.length_cons] at *; omega
        · simp only [List.length_drop]; simp only [List.length_cons] at *; omega

def dec16 (big : Bool) (l : List Int) : List Int := run16 big l.length l
theorem dec16_nil (big : Bool) : dec16 big [] = [] := rfl
theorem dec16_step (big : Bool) {l : List Int} (h : l ≠ []) : dec16 big l = (nx16 big l).1 :: dec16 big (l.drop (nx16 big l).2) := by
  cases l with
  | nil => exact absurd rfl h
  | cons c t =>
    have hs := nx16_size big (c :: t) (by simp)
    show run16 big (t.length + 1) (c :: t) = _
    simp only [run16]
    congr 1
    refine run16_fuel _ _ _ _ ?_ (Nat.le_refl _)
    simp only [List.length_drop, List.length_cons]; omega

theorem d_one (big : Bool) (a : Int) : dec16 big [a] = [65533] := by rw [dec16_step big (by simp)]; simp [nx16, dec16_nil]
theorem d_unit (big : Bool) {a b : Int} (t : List Int) (h : fst16 (ut big a b) = false) : dec16 big (a :: b :: t) = aln (ut big a b) :: dec16 big t := by
  rw [dec16_step big (by simp)]
  match t with
  | [] => simp [nx16, h]
  | [_] => simp [nx16, h]
  | _ :: _ :: _ => simp [nx16, h]
theorem d_f0 (big : Bool) {a b : Int} (h : fst16 (ut big a b) = true) : dec16 big [a, b] = [65533] := by
  rw [dec16_step big (by simp)]; simp [nx16, h, dec16_nil]
theorem d_f1 (big : Bool) {a b : Int} (c : Int) (h : fst16 (ut big a b) = true) : dec16 big [a, b, c] = [65533] := by
  rw [dec16_step big (by simp)]; simp [nx16, h, dec16_nil]
theorem d_pair (big : Bool) {a b c d : Int} (t : List Int) (h : fst16 (ut big a b) = true) (h' : snd16 (ut big c d) = true) :
    dec16 big (a :: b :: c :: d :: t) = (65536 + (ut big a b - 55296) * 1024 + (ut big c d - 56320)) :: dec16 big t := by
  rw [dec16_step big (by simp)]; simp [nx16, h, h']
theorem d_bad (big : Bool) {a b c d : Int} (t : List Int) (h : fst16 (ut big a b) = true) (h' : snd16 (ut big c d) = false) :
    dec16 big (a :: b :: c :: d :: t) = 65533 :: dec16 big (c :: d :: t) := by
  rw [dec16_step big (by simp)]; simp [nx16, h, h']

/-! ### encoding -/
def two (big : Bool) (u : Int) : List Int := if big then [u / 256, u % 256] else [u % 256, u / 256]
/-! ### two by two -/
/-! ### parts -/
end Go.Proofs.YtaiinjfnkmidbaaGreatDoor.M

namespace Go.Proofs.YtaiinjfnkmidbaaGreatDoor.M

def high : List Int := [8364, 129, 8218, 402, 8222, 8230, 8224, 8225, 710, 8240, 352, 8249, 338, 141, 381, 143, 144, 8216, 8217, 8220, 8221, 8226, 8211, 8212, 732, 8482, 353, 8250, 339, 157, 382, 376]
def pt (user : Bool) (c : Int) : Int := if c < 128 then c else if user then 63232 + c else if c < 160 then high.getD (c - 128).toNat 0 else c
def tblOf (user : Bool) (k : Nat) : List Int := (List.range k).map (fun j : Nat => pt user j)
def hasB (user : Bool) (n : Int) : Bool := (List.range 256).any (fun c => pt user (c : Nat) == n)
def bof (user : Bool) (n : Int) : Int := (((List.range 256).find? (fun c => pt user (c : Nat) == n)).getD 0 : Nat)
def decS (user : Bool) (l : List Int) : List Int := l.map (pt user)
def encS (user : Bool) (l : List Int) : List Int := l.map (bof user)

theorem tblOf_len (user : Bool) (k : Nat) : (tblOf user k).length = k := by simp [tblOf]
theorem tblOf_get (user : Bool) {k j : Nat} (h : j < k) : (tblOf user k).getD j 0 = pt user j := by simp [tblOf, h]
theorem tblOf_snoc (user : Bool) (k : Nat) : tblOf user (k + 1) = tblOf user k ++ [pt user k] := by simp [tblOf, List.range_succ]

theorem pt_bd (user : Bool) {k : Nat} (h : k < 256) : 0 ≤ pt user k ∧ pt user k ≤ 65535 := by
  have := (by decide +kernel : ∀ u : Bool, ∀ k : Fin 256, 0 ≤ pt u (k : Nat) ∧ pt u (k : Nat) ≤ 65535)
  exact this user ⟨k, h⟩
theorem pt_nodup (user : Bool) : ((List.range 256).map (fun j : Nat => pt user j)).Nodup := by
  cases user
  · decide +kernel
  · decide +kernel
theorem pt_inj (user : Bool) {j k : Nat} (hj : j < 256) (hk : k < 256) (h : pt user j = pt user k) : j = k := by
  have hn := pt_nodup user
  have e1 : ((List.range 256).map (fun j : Nat => pt user j))[j]? = some (pt user j) := by simp [hj]
  have e2 : ((List.range 256).map (fun j : Nat => pt user j))[k]? = some (pt user k) := by simp [hk]
  exact (List.getElem?_inj (by simpa using hj) hn).1 (by rw [e1, e2, h])
theorem hasB_pt (user : Bool) {k : Nat} (h : k < 256) : hasB user (pt user k) = true := by
  simp only [hasB, List.any_eq_true, List.mem_range]
  exact ⟨k, h, by simp⟩
theorem bof_spec (user : Bool) {n : Int} (h : hasB user n = true) : ∃ k : Nat, k < 256 ∧ bof user n = k ∧ pt user k = n := by
  unfold bof
  cases hf : (List.range 256).find? (fun c => pt user (c : Nat) == n) with
  | none =>
    rw [List.find?_eq_none] at hf
    simp only [hasB, List.any_eq_true] at h
    obtain ⟨c, hc, he⟩ := h
    exact absurd he (by simpa using hf c hc)
  | some k =>
    have h1 := List.mem_of_find?_eq_some hf
    have h2 := List.find?_some hf
    exact ⟨k, by simpa using h1, rfl, by simpa using h2⟩
theorem bof_pt (user : Bool) {k : Nat} (h : k < 256) : bof user (pt user k) = k := by
  obtain ⟨j, hj, e, hp⟩ := bof_spec user (hasB_pt user h)
  rw [e, pt_inj user hj h hp]
theorem bof_bd (user : Bool) {n : Int} (h : hasB user n = true) : 0 ≤ bof user n ∧ bof user n ≤ 255 := by
  obtain ⟨k, hk, e, _⟩ := bof_spec user h
  omega
theorem pt_bof (user : Bool) {n : Int} (h : hasB user n = true) : pt user (bof user n) = n := by
  obtain ⟨k, hk, e, hp⟩ := bof_spec user h
  rw [e, hp]
theorem hasB_iff (user : Bool) (n : Int) : hasB user n = true ↔ ∃ k : Nat, k < 256 ∧ pt user k = n := by
  simp [hasB]
theorem hasB_no (user : Bool) (n : Int) (h : ∀ k : Nat, k < 256 → pt user k ≠ n) : hasB user n = false := by
  rw [Bool.eq_false_iff]
  intro e
  obtain ⟨k, hk, hp⟩ := (hasB_iff user n).1 e
  exact h k hk hp
theorem byte_nat {c : Int} (h0 : 0 ≤ c) (h1 : c ≤ 255) : ∃ k : Nat, k < 256 ∧ c = k := ⟨c.toNat, by omega, by omega⟩
theorem encS_byt (user : Bool) (l : List Int) (h : l.all (hasB user) = true) : ∀ x ∈ encS user l, 0 ≤ x ∧ x ≤ 255 := by
  intro x hx
  simp only [encS, List.mem_map] at hx
  obtain ⟨n, hn, rfl⟩ := hx
  exact bof_bd user (List.all_eq_true.1 h n hn)
theorem encS_snoc (user : Bool) (l : List Int) (n : Int) : encS user (l ++ [n]) = encS user l ++ [bof user n] := by simp [encS]
theorem encS_len (user : Bool) (l : List Int) : (encS user l).length = l.length := by simp [encS]
theorem decS_len (user : Bool) (l : List Int) : (decS user l).length = l.length := by simp [decS]
theorem decS_app (user : Bool) (l m : List Int) : decS user (l ++ m) = decS user l ++ decS user m := by simp [decS]
end Go.Proofs.YtaiinjfnkmidbaaGreatDoor.M

namespace Go.Proofs.YtaiinjfnkmidbaaGreatDoor.M

/-- What is told of bytes that are left at last, of UTF-8 and UTF-16. -/
def fin (r : List Int) : List Int := if r = [] then [] else [65533]

def f8 (_ : Unit) (l : List Int) : Option (List Int × Nat × Unit) := if l = [] then none else if (nxt l).2.2 then none else some ([(nxt l).1], (nxt l).2.1.toNat, ())
theorem f8_steps : Steps f8 where
  size := by
    intro s l o k s' h
    unfold f8 at h
    split at h
    · cases h
    · rename_i hl
      split at h
      · cases h
      · have := nxt_size' l (List.length_pos_iff.2 hl)
        simp only [Option.some.injEq, Prod.mk.injEq] at h
        omega
  stay := by
    intro s l t r h
    unfold f8 at h ⊢
    split at h
    · cases h
    · rename_i hl
      split at h
      · cases h
      · rename_i ho
        have e := nxt_local (l := l) t (q := (nxt l).1) (j := (nxt l).2.1) hl (by rw [← Bool.eq_false_iff.2 ho])
        rw [if_neg (by simp [hl]), e]
        exact h
theorem f8_dec (l : List Int) : (Run f8 () l).1 ++ fin (Run f8 () l).2.2 = dec l := by
  refine Run_ind (C := fun s l => (Run f8 s l).1 ++ fin (Run f8 s l).2.2 = dec l) f8_steps ?_ ?_ () l
  · intro s l h
    rw [Run_wait h]
    by_cases hl : l = []
    · subst hl; rfl
    · unfold f8 at h
      rw [if_neg hl] at h
      have ho : (nxt l).2.2 = true := by
        cases hq : (nxt l).2.2 with
        | true => rfl
        | false => rw [hq] at h; cases h
      have e := nxt_open (l := l) (q := (nxt l).1) (j := (nxt l).2.1) (by rw [← ho])
      rw [dec_ne hl, e.1, e.2.1]
      simp [fin, hl, dec_nil]
  · intro s l o k s' h ih
    rw [Run_step f8_steps h]
    unfold f8 at h
    split at h
    · cases h
    · rename_i hl
      split at h
      · cases h
      · simp only [Option.some.injEq, Prod.mk.injEq] at h
        obtain ⟨rfl, rfl, _⟩ := h
        rw [dec_ne hl, ← ih]
        rfl

def f16 (big : Bool) (_ : Unit) : List Int → Option (List Int × Nat × Unit)
  | a :: b :: t => if fst16 (ut big a b) then (match t with
      | c :: d :: _ => if snd16 (ut big c d) then some ([65536 + (ut big a b - 55296) * 1024 + (ut big c d - 56320)], 4, ()) else some ([65533], 2, ())
      | _ => none) else some ([aln (ut big a b)], 2, ())
  | _ => none
theorem f16_steps (big : Bool) : Steps (f16 big) where
  size := by
    intro s l o k s' h
    match l, h with
    | a :: b :: [], h => simp only [f16] at h; split at h <;> simp at h; obtain ⟨_, rfl⟩ := h; simp
    | a :: b :: [c], h => simp only [f16] at h; split at h <;> simp at h; obtain ⟨_, rfl⟩ := h; simp
    | a :: b :: c :: d :: t, h => simp only [f16] at h; split at h <;> (try split at h) <;> simp at h <;> (obtain ⟨_, rfl⟩ := h; simp <;> omega)
  stay := by
    intro s l t r h
    match l, h with
    | a :: b :: [], h =>
      simp only [f16] at h
      split at h
      · cases h
      · rename_i hq; show f16 big s (a :: b :: t) = _; simp only [f16, if_neg hq]; exact h
    | a :: b :: [c], h =>
      simp only [f16] at h
      split at h
      · cases h
      · rename_i hq; show f16 big s (a :: b :: c :: t) = _; simp only [f16, if_neg hq]; exact h
    | a :: b :: c :: d :: u, h => exact h
theorem f16_dec (big : Bool) (l : List Int) : (Run (f16 big) () l).1 ++ fin (Run (f16 big) () l).2.2 = dec16 big l := by
  refine Run_ind (C := fun s l => (Run (f16 big) s l).1 ++ fin (Run (f16 big) s l).2.2 = dec16 big l) (f16_steps big) ?_ ?_ () l
  · intro s l h
    rw [Run_wait h]
    match l, h with
    | [], _ => rfl
    | [a], _ => rw [d_one]; rfl
    | [a, b], h =>
      cases hq : fst16 (ut big a b) with
      | true => rw [d_f0 big hq]; rfl
      | false => simp [f16, hq] at h
    | [a, b, c], h =>
      cases hq : fst16 (ut big a b) with
      | true => rw [d_f1 big c hq]; rfl
      | false => simp [f16, hq] at h
    | a :: b :: c :: d :: t, h =>
      simp only [f16] at h
      split at h
      · split at h <;> cases h
      · cases h
  · intro s l o k s' h ih
    rw [Run_step (f16_steps big) h]
    match l, h, ih with
    | [a, b], h, ih =>
      cases hq : fst16 (ut big a b) with
      | true => simp [f16, hq] at h
      | false =>
        simp only [f16, hq] at h
        obtain ⟨rfl, rfl, _⟩ := h
        rw [d_unit big _ hq]; exact congrArg (List.cons _) ih
    | [a, b, c], h, ih =>
      cases hq : fst16 (ut big a b) with
      | true => simp [f16, hq] at h
      | false =>
        simp only [f16, hq] at h
        obtain ⟨rfl, rfl, _⟩ := h
        rw [d_unit big _ hq]; exact congrArg (List.cons _) ih
    | a :: b :: c :: d :: t, h, ih =>
      cases hq : fst16 (ut big a b) with
      | false =>
        simp only [f16, hq] at h
        obtain ⟨rfl, rfl, _⟩ := h
        rw [d_unit big _ hq]; exact congrArg (List.cons _) ih
      | true =>
        cases hs : snd16 (ut big c d) with
        | true =>
          simp only [f16, hq, hs, if_true, Option.some.injEq, Prod.mk.injEq] at h
          obtain ⟨rfl, rfl, _⟩ := h
          rw [d_pair big _ hq hs]; exact congrArg (List.cons _) ih
        | false =>
          simp only [f16, hq, hs, if_true] at h
          obtain ⟨rfl, rfl, _⟩ := h
          rw [d_bad big _ hq hs]; exact congrArg (List.cons _) ih

def fS (user : Bool) (_ : Unit) : List Int → Option (List Int × Nat × Unit)
  | c :: _ => some ([pt user c], 1, ())
  | [] => none
theorem fS_steps (user : Bool) : Steps (fS user) where
  size := by
    intro s l o k s' h
    match l, h with
    | c :: t, h => simp [fS] at h; simp [← h.2]
  stay := by
    intro s l t r h
    match l, h with
    | c :: u, h => exact h
theorem fS_run (user : Bool) (s : Unit) : ∀ l : List Int, Run (fS user) s l = (decS user l, (), [])
  | [] => rfl
  | c :: t => by
    rw [Run_step (fS_steps user) (s' := ()) (o := [pt user c]) (k := 1) rfl]
    show ([pt user c] ++ (Run (fS user) () t).1, (Run (fS user) () t).2) = _
    rw [fS_run user () t]; rfl

def fX (b : Bool) : List Int → Option (List Int × Nat × Bool)
  | _ :: _ => some (if b then [] else [65533], 1, true)
  | [] => none
theorem fX_steps : Steps fX where
  size := by
    intro s l o k s' h
    match l, h with
    | c :: t, h => simp [fX] at h; simp [← h.2.1]
  stay := by
    intro s l t r h
    match l, h with
    | c :: u, h => exact h
theorem fX_run : ∀ (b : Bool) (l : List Int), Run fX b l = (if b || l.isEmpty then [] else [65533], b || !l.isEmpty, [])
  | b, [] => by cases b <;> rfl
  | b, c :: t => by
    rw [Run_step fX_steps (s' := true) (o := if b then [] else [65533]) (k := 1) rfl]
    show ((if b then [] else [65533]) ++ (Run fX true t).1, (Run fX true t).2) = _
    rw [fX_run true t]
    cases b <;> simp
end Go.Proofs.YtaiinjfnkmidbaaGreatDoor.M

namespace Go.Proofs.YtaiinjfnkmidbaaGreatDoor.M

/-- The code point of a byte that is no 27, by signs (0: plain, 1: Roman, 2: kana). -/
def ksn (g c : Int) : Int := if g = 2 then (if 33 ≤ c ∧ c ≤ 95 then 65344 + c else 65533) else if 127 < c ∨ c = 14 ∨ c = 15 then 65533 else if g = 1 ∧ c = 92 then 165 else if g = 1 ∧ c = 126 then 8254 else c
def bads (fr : Bool) : List Int := if fr then [65533] else []
/-- A step: the signs, and whether an escape stood just ahead. -/
def fk (h : Int × Bool) : List Int → Option (List Int × Nat × (Int × Bool))
  | [] => none
  | c :: t => if c ≠ 27 then some ([ksn h.1 c], 1, (h.1, false)) else match t with
    | [] => none
    | d :: u => if d ≠ 40 then some ([65533], 1, (h.1, false)) else match u with
      | [] => none
      | e :: _ => if e = 66 then some (bads h.2, 3, (0, true)) else if e = 74 then some (bads h.2, 3, (1, true)) else if e = 73 then some (bads h.2, 3, (2, true)) else some ([65533], 1, (h.1, false))
theorem fk_sign (h : Int × Bool) {c : Int} (t : List Int) (hc : c ≠ 27) : fk h (c :: t) = some ([ksn h.1 c], 1, (h.1, false)) := by
  simp only [fk]; rw [if_pos hc]
theorem fk_steps : Steps fk where
  size := by
    intro s l o k s' h
    match l, h with
    | [c], h =>
      simp only [fk] at h
      split at h
      · simp only [Option.some.injEq, Prod.mk.injEq] at h; simp; omega
      · cases h
    | [c, d], h =>
      simp only [fk] at h
      split at h
      · simp only [Option.some.injEq, Prod.mk.injEq] at h; simp; omega
      · split at h
        · simp only [Option.some.injEq, Prod.mk.injEq] at h; simp; omega
        · cases h
    | c :: d :: e :: t, h =>
      simp only [fk] at h
      simp only [List.length_cons]
      split at h
      · simp only [Option.some.injEq, Prod.mk.injEq] at h; omega
      · split at h
        · simp only [Option.some.injEq, Prod.mk.injEq] at h; omega
        · split at h
          · simp only [Option.some.injEq, Prod.mk.injEq] at h; omega
          · split at h
            · simp only [Option.some.injEq, Prod.mk.injEq] at h; omega
            · split at h <;> (simp only [Option.some.injEq, Prod.mk.injEq] at h; omega)
  stay := by
    intro s l t r h
    match l, h with
    | [c], h =>
      simp only [fk] at h
      split at h
      · rename_i hc; rw [List.cons_append, fk_sign s _ hc]; exact h
      · cases h
    | [c, d], h =>
      simp only [fk] at h
      split at h
      · rename_i hc; rw [List.cons_append, fk_sign s _ hc]; exact h
      · rename_i hc
        split at h
        · rename_i hd; show fk s (c :: d :: t) = _; simp only [fk, if_neg hc, if_pos hd]; exact h
        · cases h
    | c :: d :: e :: u, h => exact h

def esc (g : Int) : Int := if g = 0 then 66 else if g = 1 then 74 else 73
def Sg (g : Int) : Prop := g = 0 ∨ g = 1 ∨ g = 2
theorem fk_esc (h : Int × Bool) {g : Int} (hg : Sg g) (t : List Int) : fk h (27 :: 40 :: esc g :: t) = some (bads h.2, 3, (g, true)) := by
  rcases hg with rfl | rfl | rfl <;> simp [fk, esc]
theorem Run_sign (h : Int × Bool) {c : Int} (t : List Int) (hc : c ≠ 27) : Run fk h (c :: t) = (ksn h.1 c :: (Run fk (h.1, false) t).1, (Run fk (h.1, false) t).2) := by
  rw [Run_step fk_steps (fk_sign h t hc)]; rfl
theorem Run_esc (h : Int × Bool) {g : Int} (hg : Sg g) (t : List Int) : Run fk h (27 :: 40 :: esc g :: t) = (bads h.2 ++ (Run fk (g, true) t).1, (Run fk (g, true) t).2) := by
  rw [Run_step fk_steps (fk_esc h hg t)]; rfl

/-- What is told of what waits at last, and all that a text tells. -/
def kfin (g : Int) : List Int → List Int
  | [] => []
  | [_] => [65533]
  | _ => [65533, ksn g 40]
def kdec (l : List Int) : List Int := (Run fk (0, false) l).1 ++ kfin (Run fk (0, false) l).2.1.1 (Run fk (0, false) l).2.2
theorem Run_nil (h : Int × Bool) : Run fk h [] = ([], h, []) := Run_wait rfl
/-- What waits: nothing, a 27, or that and a 40. -/
theorem fk_waits {h : Int × Bool} {l : List Int} (hw : fk h l = none) : l = [] ∨ l = [27] ∨ l = [27, 40] := by
  match l, hw with
  | [], _ => exact .inl rfl
  | [c], hw =>
    simp only [fk] at hw
    split at hw
    · cases hw
    · rename_i hc; exact .inr (.inl (by simp at hc; rw [hc]))
  | [c, d], hw =>
    simp only [fk] at hw
    split at hw
    · cases hw
    · rename_i hc
      split at hw
      · cases hw
      · rename_i hd; exact .inr (.inr (by simp at hc hd; rw [hc, hd]))
  | c :: d :: e :: t, hw =>
    simp only [fk] at hw
    split at hw
    · cases hw
    · split at hw
      · cases hw
      · split at hw
        · cases hw
        · split at hw
          · cases hw
          · split at hw <;> cases hw

/-! ### encoding -/
def kis (g n : Int) (c : Nat) : Bool := c != 27 && ksn g c == n && n != 65533
def hasK (g n : Int) : Bool := (List.range 128).any (kis g n)
def kby (g n : Int) : Int := (((List.range 128).find? (kis g n)).getD 0 : Nat)
def anyK (n : Int) : Bool := hasK 0 n || hasK 1 n || hasK 2 n
def want (now n : Int) : Int := if hasK now n then now else if hasK 0 n then 0 else if hasK 1 n then 1 else 2
theorem kby_spec {g n : Int} (h : hasK g n = true) : ∃ c : Nat, c < 128 ∧ kby g n = c ∧ c ≠ 27 ∧ ksn g c = n := by
  unfold kby
  cases hf : (List.range 128).find? (kis g n) with
  | none =>
    rw [List.find?_eq_none] at hf
    simp only [hasK, List.any_eq_true] at h
    obtain ⟨c, hc, he⟩ := h
    exact absurd he (hf c hc)
  | some k =>
    have h1 := List.mem_of_find?_eq_some hf
    have h2 := List.find?_some hf
    simp only [kis, Bool.and_eq_true, bne_iff_ne, beq_iff_eq] at h2
    exact ⟨k, by simpa using h1, rfl, h2.1.1, h2.1.2⟩
theorem hasK_iff (g n : Int) : hasK g n = true ↔ ∃ c : Nat, c < 128 ∧ c ≠ 27 ∧ ksn g c = n ∧ n ≠ 65533 := by
  simp only [hasK, List.any_eq_true, List.mem_range, kis, Bool.and_eq_true, bne_iff_ne, beq_iff_eq]
  constructor
  · rintro ⟨c, h1, ⟨h2, h3⟩, h4⟩; exact ⟨c, h1, h2, h3, h4⟩
  · rintro ⟨c, h1, h2, h3, h4⟩; exact ⟨c, h1, ⟨h2, h3⟩, h4⟩
theorem want_sg {now n : Int} (hn : Sg now) : Sg (want now n) := by
  unfold want Sg at *
  split
  · exact hn
  · split
    · exact .inl rfl
    · split
      · exact .inr (.inl rfl)
      · exact .inr (.inr rfl)
theorem want_has {now n : Int} (h : anyK n = true) : hasK (want now n) n = true := by
  simp only [anyK, Bool.or_eq_true] at h
  unfold want
  split
  · assumption
  · split
    · assumption
    · split
      · assumption
      · rcases h with (h | h) | h
        · contradiction
        · contradiction
        · exact h
def kpc (now n : Int) : List Int := (if want now n = now then [] else [27, 40, esc (want now n)]) ++ [kby (want now n) n]
def kst (now : Int) (l : List Int) : Int := l.foldl want now
def kbody : Int → List Int → List Int
  | _, [] => []
  | now, n :: l => kpc now n ++ kbody (want now n) l
def ktail (now : Int) : List Int := if now = 0 then [] else [27, 40, 66]
def kenc (l : List Int) : List Int := kbody 0 l ++ ktail (kst 0 l)
theorem kbody_snoc : ∀ (l : List Int) (now n : Int), kbody now (l ++ [n]) = kbody now l ++ kpc (kst now l) n
  | [], now, n => by simp [kbody, kst]
  | m :: l, now, n => by
    show kpc now m ++ kbody (want now m) (l ++ [n]) = kpc now m ++ kbody (want now m) l ++ kpc (kst (want now m) l) n
    rw [kbody_snoc l, List.append_assoc]
theorem kst_snoc (l : List Int) (now n : Int) : kst now (l ++ [n]) = want (kst now l) n := by simp [kst]
theorem kst_sg : ∀ (l : List Int) {now : Int}, Sg now → Sg (kst now l)
  | [], _, h => h
  | n :: l, now, h => kst_sg l (now := want now n) (want_sg h)
theorem kpc_len (now n : Int) : (kpc now n).length ≤ 4 := by unfold kpc; split <;> simp
theorem kbody_len : ∀ (l : List Int) (now : Int), (kbody now l).length ≤ 4 * l.length
  | [], _ => by simp [kbody]
  | n :: l, now => by
    have h1 := kpc_len now n
    have h2 := kbody_len l (want now n)
    simp only [kbody, List.length_append, List.length_cons]; omega
theorem kenc_len (l : List Int) : (kenc l).length ≤ 4 * l.length + 3 := by
  have := kbody_len l 0
  have : (ktail (kst 0 l)).length ≤ 3 := by unfold ktail; split <;> simp
  simp only [kenc, List.length_append]; omega
theorem Run_kpc {now n : Int} (hn : Sg now) (ha : anyK n = true) (X : List Int) : Run fk (now, false) (kpc now n ++ X) = (n :: (Run fk (want now n, false) X).1, (Run fk (want now n, false) X).2) := by
  obtain ⟨c, hc, e, h27, hk⟩ := kby_spec (want_has (now := now) ha)
  have hb : kby (want now n) n ≠ 27 := by rw [e]; omega
  unfold kpc
  by_cases hw : want now n = now
  · rw [if_pos hw, List.nil_append]
    show Run fk (now, false) (kby (want now n) n :: X) = _
    rw [Run_sign _ _ hb, e]
    show (ksn now c :: (Run fk (now, false) X).1, (Run fk (now, false) X).2) = _
    rw [hw] at hk ⊢
    rw [hk]
  · rw [if_neg hw]
    show Run fk (now, false) (27 :: 40 :: esc (want now n) :: kby (want now n) n :: X) = _
    rw [Run_esc _ (want_sg hn), Run_sign _ _ hb, e, hk]
    rfl
theorem Run_kbody : ∀ (l : List Int) {now : Int}, Sg now → l.all anyK = true → ∀ X, Run fk (now, false) (kbody now l ++ X) = (l ++ (Run fk (kst now l, false) X).1, (Run fk (kst now l, false) X).2)
  | [], now, _, _, X => by simp [kbody, kst]
  | n :: l, now, hn, ha, X => by
    rw [List.all_cons, Bool.and_eq_true] at ha
    show Run fk (now, false) (kpc now n ++ kbody (want now n) l ++ X) = _
    rw [List.append_assoc, Run_kpc hn ha.1, Run_kbody l (want_sg hn) ha.2 X]
    rfl
theorem Run_kenc (l : List Int) (ha : l.all anyK = true) (X : List Int) : ∃ fr, Run fk (0, false) (kenc l ++ X) = (l ++ (Run fk (0, fr) X).1, (Run fk (0, fr) X).2) := by
  unfold kenc
  rw [List.append_assoc, Run_kbody l (.inl rfl) ha]
  unfold ktail
  split
  · rename_i h; rw [h]; exact ⟨false, rfl⟩
  · refine ⟨true, ?_⟩
    have e := Run_esc (kst 0 l, false) (g := 0) (.inl rfl) X
    have e' : ([27, 40, 66] ++ X : List Int) = 27 :: 40 :: esc 0 :: X := rfl
    rw [e', e]
    rfl
theorem kdec_enc (l : List Int) (ha : l.all anyK = true) : kdec (kenc l) = l := by
  obtain ⟨fr, e⟩ := Run_kenc l ha []
  rw [List.append_nil, Run_nil] at e
  unfold kdec
  rw [e]; simp [kfin]
/-! ### plain signs -/
def pln (c : Int) : Bool := decide (0 ≤ c ∧ c < 128 ∧ c ≠ 14 ∧ c ≠ 15 ∧ c ≠ 27)
theorem pln_sn {c : Int} (h : pln c = true) : ksn 0 c = c ∧ c ≠ 27 ∧ 0 ≤ c ∧ c < 128 := by
  simp only [pln, decide_eq_true_eq] at h
  refine ⟨?_, by omega, by omega, by omega⟩
  unfold ksn; rw [if_neg (by omega), if_neg (by omega), if_neg (by omega), if_neg (by omega)]
theorem pln_has {c : Int} (h : pln c = true) : hasK 0 c = true := by
  have hs := pln_sn h
  rw [hasK_iff]
  exact ⟨c.toNat, by omega, by omega, by rw [show ((c.toNat : Nat) : Int) = c from by omega]; exact hs.1, by omega⟩
/-! ### escapes behind escapes -/
end Go.Proofs.YtaiinjfnkmidbaaGreatDoor.M

namespace Go.Proofs.YtaiinjfnkmidbaaGreatDoor.M

def tot {σ : Type} (g : σ → List Int → List Int × Nat × σ) : Nat → σ → List Int → List Int × σ
  | 0, s, _ => ([], s)
  | n + 1, s, l => if l = [] then ([], s) else ((g s l).1 ++ (tot g n (g s l).2.2 (l.drop (g s l).2.1)).1, (tot g n (g s l).2.2 (l.drop (g s l).2.1)).2)

structure Whole {σ : Type} (f : σ → List Int → Option (List Int × Nat × σ)) (g : σ → List Int → List Int × Nat × σ) : Prop where
  size : ∀ s l, l ≠ [] → 1 ≤ (g s l).2.1 ∧ (g s l).2.1 ≤ l.length
  take : ∀ s l o k s' n, f s l = some (o, k, s') → k ≤ n → n ≤ l.length → (n = k ∨ ∃ o2 k2 s2, f s' (l.drop k) = some (o2, k2, s2) ∧ k + k2 ≤ n) → g s (l.take n) = (o, k, s')
  all : ∀ s l o k s', f s l = some (o, k, s') → g s l = (o, k, s')

def Tot {σ : Type} (g : σ → List Int → List Int × Nat × σ) (s : σ) (l : List Int) : List Int × σ := tot g l.length s l

section
variable {σ : Type} {f : σ → List Int → Option (List Int × Nat × σ)} {g : σ → List Int → List Int × Nat × σ}
theorem tot_nil (n : Nat) (s : σ) : tot g n s [] = ([], s) := by cases n <;> simp [tot]
theorem Tot_nil (s : σ) : Tot g s [] = ([], s) := tot_nil _ s
theorem tot_fuel (hs : ∀ s l, l ≠ [] → 1 ≤ (g s l).2.1 ∧ (g s l).2.1 ≤ l.length) : ∀ (n m : Nat) (s : σ) (l : List Int), l.length ≤ n → l.length ≤ m → tot g n s l = tot g m s l := by
  intro n
  induction n with
  | zero =>
    intro m s l h1 h2
    have : l = [] := List.eq_nil_of_length_eq_zero (by omega)
    subst this
    rw [tot_nil, tot_nil]
  | succ n ih =>
    intro m s l h1 h2
    by_cases hl : l = []
    · subst hl; rw [tot_nil, tot_nil]
    · have h3 := hs s l hl
      cases m with
      | zero => exact absurd (List.eq_nil_of_length_eq_zero (by omega)) hl
      | succ m =>
        simp only [tot, if_neg hl]
        rw [ih m (g s l).2.2 (l.drop (g s l).2.1) (by simp; omega) (by simp; omega)]
theorem Tot_step (hs : ∀ s l, l ≠ [] → 1 ≤ (g s l).2.1 ∧ (g s l).2.1 ≤ l.length) {s s' : σ} {l o : List Int} {k : Nat} (hl : l ≠ []) (h : g s l = (o, k, s')) : Tot g s l = (o ++ (Tot g s' (l.drop k)).1, (Tot g s' (l.drop k)).2) := by
  have h3 := hs s l hl
  rw [h] at h3
  unfold Tot
  obtain ⟨n, hn⟩ : ∃ n, l.length = n + 1 := ⟨l.length - 1, by simp at h3; omega⟩
  rw [hn]
  simp only [tot, if_neg hl, h]
  rw [tot_fuel hs n (l.drop k).length s' (l.drop k) (by simp at h3; simp; omega) (Nat.le_refl _)]
/-- Up to where something waits. -/
theorem Tot_take (hf : Steps f) (hg : Whole f g) (s : σ) (l : List Int) : ∀ n, n ≤ l.length → (Run f s l).2.2 = l.drop n → Tot g s (l.take n) = ((Run f s l).1, (Run f s l).2.1) := by
  refine Run_ind (C := fun s l => ∀ n, n ≤ l.length → (Run f s l).2.2 = l.drop n → Tot g s (l.take n) = ((Run f s l).1, (Run f s l).2.1)) hf ?_ ?_ s l
  · intro s l h n hn e
    rw [Run_wait h] at e ⊢
    have hl := congrArg List.length e
    simp at hl
    have e0 : l.take n = [] := List.eq_nil_of_length_eq_zero (by simp; omega)
    rw [e0, Tot_nil]
  · intro s l o k s' h ih n hn e
    have hk := hf.size s l o k s' h
    rw [Run_step hf h] at e ⊢
    obtain ⟨m, em, hm⟩ := Run_end hf s' (l.drop k)
    have e' : (Run f s' (l.drop k)).2.2 = l.drop n := e
    have hl := congrArg List.length e'
    rw [em] at hl
    simp at hl hm
    have hkn : k ≤ n := by omega
    have ht := hg.take s l o k s' n h hkn hn (by
      by_cases hq : n = k
      · exact .inl hq
      · refine .inr ?_
        cases hr : f s' (l.drop k) with
        | none => rw [Run_wait hr] at e'; have := congrArg List.length e'; simp at this; omega
        | some r =>
          obtain ⟨o2, k2, s2⟩ := r
          have h2 := hf.size _ _ _ _ _ hr
          rw [Run_step hf hr] at e'
          obtain ⟨m2, em2, hm2⟩ := Run_end hf s2 ((l.drop k).drop k2)
          have e2 : (Run f s2 ((l.drop k).drop k2)).2.2 = l.drop n := e'
          have hl2 := congrArg List.length e2
          rw [em2] at hl2
          simp at hl2 hm2 h2
          exact ⟨o2, k2, s2, rfl, by omega⟩)
    have hne : l.take n ≠ [] := fun h0 => by have := congrArg List.length h0; rw [List.length_take, List.length_nil] at this; omega
    rw [Tot_step hg.size hne ht, List.drop_take, ih (n - k) (by simp; omega) (by rw [e', List.drop_drop]; congr 1; omega)]
theorem Tot_run (hf : Steps f) (hg : Whole f g) (s : σ) (l : List Int) : Tot g s l = ((Run f s l).1 ++ (Tot g (Run f s l).2.1 (Run f s l).2.2).1, (Tot g (Run f s l).2.1 (Run f s l).2.2).2) := by
  refine Run_ind (C := fun s l => Tot g s l = ((Run f s l).1 ++ (Tot g (Run f s l).2.1 (Run f s l).2.2).1, (Tot g (Run f s l).2.1 (Run f s l).2.2).2)) hf ?_ ?_ s l
  · intro s l h; rw [Run_wait h]; simp
  · intro s l o k s' h ih
    have hk := hf.size s l o k s' h
    have ht := hg.all s l o k s' h
    have hne : l ≠ [] := fun h0 => by subst h0; simp at hk; omega
    rw [Run_step hf h, Tot_step hg.size hne ht, ih]
    simp [List.append_assoc]
end

/-! ### the encodings -/
def g8 (_ : Unit) (l : List Int) : List Int × Nat × Unit := ([(nxt l).1], (nxt l).2.1.toNat, ())
theorem g8_size (s : Unit) (l : List Int) (hl : l ≠ []) : 1 ≤ (g8 s l).2.1 ∧ (g8 s l).2.1 ≤ l.length := by
  have := nxt_size' l (List.length_pos_iff.2 hl)
  simp only [g8]; omega
theorem g8_whole : Whole f8 g8 where
  size := g8_size
  take := by
    intro s l o k s' n h hk hn _
    unfold f8 at h
    split at h
    · cases h
    · rename_i hl
      split at h
      · cases h
      · rename_i ho
        have hs := nxt_size' l (List.length_pos_iff.2 hl)
        simp only [Option.some.injEq, Prod.mk.injEq] at h
        obtain ⟨rfl, rfl, _⟩ := h
        have hne : l.take n ≠ [] := fun h0 => by have := congrArg List.length h0; rw [List.length_take, List.length_nil] at this; omega
        have e := nxt_prefix (m := l.take n) (v := l.drop n) (q := (nxt l).1) (j := (nxt l).2.1) hne (by rw [List.take_append_drop, ← Bool.eq_false_iff.2 ho]) (by simp; omega)
        simp only [g8, e.1, e.2]
  all := by
    intro s l o k s' h
    unfold f8 at h
    split at h
    · cases h
    · split at h
      · cases h
      · simp only [Option.some.injEq] at h; exact h
theorem g8_dec (l : List Int) : (Tot g8 () l).1 = dec l := by
  refine piece_ind (C := fun l => (Tot g8 () l).1 = dec l) rfl ?_ l
  intro l hl ih
  rw [Tot_step g8_size (s' := ()) hl rfl, dec_ne hl, ← ih]
  rfl

def g16 (big : Bool) (_ : Unit) (l : List Int) : List Int × Nat × Unit := ([(nx16 big l).1], (nx16 big l).2, ())
theorem g16_size (big : Bool) (s : Unit) (l : List Int) (hl : l ≠ []) : 1 ≤ (g16 big s l).2.1 ∧ (g16 big s l).2.1 ≤ l.length := by
  have := nx16_size big l hl
  simp only [g16]; omega
theorem f16_two {big : Bool} {s s' : Unit} {l o : List Int} {k : Nat} (h : f16 big s l = some (o, k, s')) : 2 ≤ k := by
  match l, h with
  | [a, b], h => simp only [f16] at h; split at h <;> simp at h; omega
  | [a, b, c], h => simp only [f16] at h; split at h <;> simp at h; omega
  | a :: b :: c :: d :: t, h => simp only [f16] at h; split at h <;> (try split at h) <;> simp at h <;> omega
theorem g16_whole (big : Bool) : Whole (f16 big) (g16 big) where
  size := g16_size big
  take := by
    intro s l o k s' n h hk hn hnx
    match l, h with
    | [a, b], h =>
      simp only [f16] at h
      split at h
      · cases h
      · rename_i hq
        simp only [Option.some.injEq, Prod.mk.injEq] at h
        obtain ⟨rfl, rfl, _⟩ := h
        have : n = 2 := by simp at hn; omega
        subst this
        simp [g16, nx16, hq]
    | [a, b, c], h =>
      simp only [f16] at h
      split at h
      · cases h
      · rename_i hq
        simp only [Option.some.injEq, Prod.mk.injEq] at h
        obtain ⟨rfl, rfl, _⟩ := h
        simp at hn
        obtain rfl | rfl : n = 2 ∨ n = 3 := by omega
        · simp [g16, nx16, hq]
        · simp [g16, nx16, hq]
    | a :: b :: c :: d :: t, h =>
      simp only [f16] at h
      split at h
      · rename_i hq
        split at h
        · rename_i hs
          simp only [Option.some.injEq, Prod.mk.injEq] at h
          obtain ⟨rfl, rfl, _⟩ := h
          obtain ⟨m, rfl⟩ : ∃ m, n = m + 4 := ⟨n - 4, by omega⟩
          simp [g16, nx16, hq, hs]
        · rename_i hs
          simp only [Option.some.injEq, Prod.mk.injEq] at h
          obtain ⟨rfl, rfl, _⟩ := h
          obtain rfl | ⟨m, rfl⟩ : n = 2 ∨ ∃ m, n = m + 4 := by
            rcases hnx with h | ⟨o2, k2, s2, h2, h3⟩
            · exact .inl h
            · have := f16_two h2
              exact .inr ⟨n - 4, by omega⟩
          · simp [g16, nx16, hq]
          · simp [g16, nx16, hq, hs]
      · rename_i hq
        simp only [Option.some.injEq, Prod.mk.injEq] at h
        obtain ⟨rfl, rfl, _⟩ := h
        obtain rfl | rfl | ⟨m, rfl⟩ : n = 2 ∨ n = 3 ∨ ∃ m, n = m + 4 := by
          rcases Nat.lt_or_ge n 4 with h | h
          · omega
          · exact .inr (.inr ⟨n - 4, by omega⟩)
        · simp [g16, nx16, hq]
        · simp [g16, nx16, hq]
        · simp [g16, nx16, hq]
  all := by
    intro s l o k s' h
    match l, h with
    | [a, b], h => simp only [f16] at h; split at h <;> simp at h; rename_i hq; simp [g16, nx16, hq, ← h.1, ← h.2]
    | [a, b, c], h => simp only [f16] at h; split at h <;> simp at h; rename_i hq; simp [g16, nx16, hq, ← h.1, ← h.2]
    | a :: b :: c :: d :: t, h =>
      simp only [f16] at h
      split at h
      · rename_i hq
        split at h
        · rename_i hs; simp at h; simp [g16, nx16, hq, hs, ← h.1, ← h.2]
        · rename_i hs; simp at h; simp [g16, nx16, hq, hs, ← h.1, ← h.2]
      · rename_i hq; simp at h; simp [g16, nx16, hq, ← h.1, ← h.2]
theorem g16_dec (big : Bool) : ∀ (n : Nat) (l : List Int), l.length ≤ n → (Tot (g16 big) () l).1 = dec16 big l
  | 0, l, h => by
    have : l = [] := List.eq_nil_of_length_eq_zero (by omega)
    subst this; rfl
  | n + 1, l, h => by
    by_cases hl : l = []
    · subst hl; rfl
    · have hs := nx16_size big l hl
      rw [Tot_step (g16_size big) (s' := ()) hl rfl, dec16_step big hl]
      show (nx16 big l).1 :: (Tot (g16 big) () (l.drop (nx16 big l).2)).1 = _
      rw [g16_dec big n (l.drop (nx16 big l).2) (by simp; omega)]

def gS (user : Bool) (_ : Unit) (l : List Int) : List Int × Nat × Unit := ([pt user (l.headD 0)], 1, ())
theorem one_size {l : List Int} (hl : l ≠ []) : 1 ≤ 1 ∧ 1 ≤ l.length := ⟨Nat.le_refl _, List.length_pos_iff.2 hl⟩
theorem gS_whole (user : Bool) : Whole (fS user) (gS user) where
  size := fun s l hl => one_size hl
  take := by
    intro s l o k s' n h hk hn _
    match l, h with
    | c :: t, h =>
      simp only [fS, Option.some.injEq, Prod.mk.injEq] at h
      obtain ⟨rfl, rfl, _⟩ := h
      obtain ⟨m, rfl⟩ : ∃ m, n = m + 1 := ⟨n - 1, by omega⟩
      rfl
  all := by
    intro s l o k s' h
    match l, h with
    | c :: t, h => simp only [fS, Option.some.injEq] at h; exact h
theorem gS_dec (user : Bool) : ∀ l : List Int, (Tot (gS user) () l).1 = decS user l
  | [] => rfl
  | c :: t => by
    rw [Tot_step (gS_whole user).size (s' := ()) (by simp) rfl]
    show pt user c :: (Tot (gS user) () t).1 = _
    rw [gS_dec user t]; rfl

def gX (b : Bool) (_ : List Int) : List Int × Nat × Bool := (if b then [] else [65533], 1, true)
theorem gX_whole : Whole fX gX where
  size := fun s l hl => one_size hl
  take := by
    intro s l o k s' n h hk hn _
    match l, h with
    | c :: t, h => simp only [fX, Option.some.injEq] at h; exact h
  all := by
    intro s l o k s' h
    match l, h with
    | c :: t, h => simp only [fX, Option.some.injEq] at h; exact h
theorem gX_tot : ∀ (b : Bool) (l : List Int), Tot gX b l = (if b || l.isEmpty then [] else [65533], b || !l.isEmpty)
  | b, [] => by cases b <;> rfl
  | b, c :: t => by
    rw [Tot_step gX_whole.size (s' := true) (o := if b then [] else [65533]) (k := 1) (by simp) rfl]
    show ((if b then [] else [65533]) ++ (Tot gX true t).1, (Tot gX true t).2) = _
    rw [gX_tot true t]
    cases b <;> simp

/-- The escape at the beginning: to which signs it shifts. -/
def kesc : List Int → Option Int
  | a :: b :: c :: _ => if a = 27 ∧ b = 40 then (if c = 66 then some 0 else if c = 74 then some 1 else if c = 73 then some 2 else none) else none
  | _ => none
def kpt (g c : Int) : Int := if c = 27 then 65533 else ksn g c
def gk (h : Int × Bool) (l : List Int) : List Int × Nat × (Int × Bool) := match kesc l with
  | some g => (bads h.2, 3, (g, true))
  | none => ([kpt h.1 (l.headD 0)], 1, (h.1, false))
theorem kesc_len {l : List Int} {g : Int} (h : kesc l = some g) : 3 ≤ l.length ∧ (g = 0 ∨ g = 1 ∨ g = 2) := by
  match l, h with
  | a :: b :: c :: t, h =>
    simp only [kesc] at h
    refine ⟨by simp, ?_⟩
    split at h
    · split at h
      · cases h; simp
      · split at h
        · cases h; simp
        · split at h
          · cases h; simp
          · cases h
    · cases h
theorem gk_size (h : Int × Bool) (l : List Int) (hl : l ≠ []) : 1 ≤ (gk h l).2.1 ∧ (gk h l).2.1 ≤ l.length := by
  unfold gk
  cases he : kesc l with
  | some g => have := kesc_len he; simp; omega
  | none => exact one_size hl
theorem gk_all (s : Int × Bool) (l : List Int) (o : List Int) (k : Nat) (s' : Int × Bool) (h : fk s l = some (o, k, s')) : gk s l = (o, k, s') ∧ (k = 1 ∨ k = 3) ∧ (kesc l = none ↔ k = 1) := by
  match l, h with
  | [c], h =>
    simp only [fk] at h
    split at h
    · rename_i hc; simp only [Option.some.injEq, Prod.mk.injEq] at h; obtain ⟨rfl, rfl, rfl⟩ := h; simp [gk, kesc, kpt, hc]
    · cases h
  | [c, d], h =>
    simp only [fk] at h
    split at h
    · rename_i hc; simp only [Option.some.injEq, Prod.mk.injEq] at h; obtain ⟨rfl, rfl, rfl⟩ := h; simp [gk, kesc, kpt, hc]
    · rename_i hc
      split at h
      · rename_i hd; simp at hc; simp only [Option.some.injEq, Prod.mk.injEq] at h; obtain ⟨rfl, rfl, rfl⟩ := h; simp [gk, kesc, kpt, hc]
      · cases h
  | c :: d :: e :: t, h =>
    simp only [fk] at h
    split at h
    · rename_i hc; simp only [Option.some.injEq, Prod.mk.injEq] at h; obtain ⟨rfl, rfl, rfl⟩ := h; simp [gk, kesc, kpt, hc]
    · rename_i hc
      simp at hc
      split at h
      · rename_i hd; simp only [Option.some.injEq, Prod.mk.injEq] at h; obtain ⟨rfl, rfl, rfl⟩ := h; simp [gk, kesc, kpt, hc, hd]
      · rename_i hd
        simp at hd
        split at h
        · rename_i he; simp only [Option.some.injEq, Prod.mk.injEq] at h; obtain ⟨rfl, rfl, rfl⟩ := h; simp [gk, kesc, hc, hd, he]
        · rename_i he
          split at h
          · rename_i he2; simp only [Option.some.injEq, Prod.mk.injEq] at h; obtain ⟨rfl, rfl, rfl⟩ := h; simp [gk, kesc, hc, hd, he2]
          · rename_i he2
            split at h
            · rename_i he3; simp only [Option.some.injEq, Prod.mk.injEq] at h; obtain ⟨rfl, rfl, rfl⟩ := h; simp [gk, kesc, hc, hd, he3]
            · rename_i he3; simp only [Option.some.injEq, Prod.mk.injEq] at h; obtain ⟨rfl, rfl, rfl⟩ := h; simp [gk, kesc, kpt, hc, hd, he, he2, he3]
theorem kesc_take {l : List Int} {n : Nat} (h : kesc l = none) : kesc (l.take n) = none := by
  match l, n with
  | [], _ => simp [kesc]
  | _, 0 => simp [kesc]
  | [a], n + 1 => simp [kesc]
  | [a, b], n + 1 => cases n <;> simp [kesc]
  | a :: b :: c :: t, 1 => simp [kesc]
  | a :: b :: c :: t, 2 => simp [kesc]
  | a :: b :: c :: t, n + 3 => exact h
theorem gk_whole : Whole fk gk where
  size := gk_size
  take := by
    intro s l o k s' n h hk hn _
    obtain ⟨e, hk2, he⟩ := gk_all s l o k s' h
    rcases hk2 with rfl | rfl
    · have hz := he.2 rfl
      have hz2 := kesc_take (n := n) hz
      rw [← e]
      unfold gk
      rw [hz, hz2]
      match l, n, hk with
      | [], n + 1, _ => rfl
      | c :: t, n + 1, _ => rfl
    · rw [← e]
      match l, n, hk with
      | [], n + 3, _ => rfl
      | [_], n + 3, _ => rfl
      | [_, _], n + 3, _ => rfl
      | a :: b :: c :: t, n + 3, _ => rfl
  all := fun s l o k s' h => (gk_all s l o k s' h).1
/-- All that a text of shifted signs tells. -/
theorem gk_dec (l : List Int) : (Tot gk (0, false) l).1 = kdec l := by
  rw [Tot_run fk_steps gk_whole]
  unfold kdec
  rcases fk_waits (Run_left fk_steps (0, false) l) with h | h | h
  · rw [h, Tot_nil]; rfl
  · rw [h, Tot_step gk_size (s' := ((Run fk (0, false) l).2.1.1, false)) (o := [65533]) (k := 1) (by simp) rfl]; simp [Tot_nil, kfin]
  · rw [h, Tot_step gk_size (s' := ((Run fk (0, false) l).2.1.1, false)) (o := [65533]) (k := 1) (by simp) rfl]
    rw [show ([27, 40] : List Int).drop 1 = [40] from rfl, Tot_step gk_size (s' := ((Run fk (0, false) l).2.1.1, false)) (o := [ksn (Run fk (0, false) l).2.1.1 40]) (k := 1) (by simp) rfl]
    simp [Tot_nil, kfin]
end Go.Proofs.YtaiinjfnkmidbaaGreatDoor.M

namespace Go.Proofs.YtaiinjfnkmidbaaGreatDoor.M

section
variable {σ τ : Type} (get : τ → σ) (put : τ → σ → τ)
def liftF (f : σ → List Int → Option (List Int × Nat × σ)) : τ → List Int → Option (List Int × Nat × τ) := fun t l => (f (get t) l).map (fun r => (r.1, r.2.1, put t r.2.2))
def liftG (g : σ → List Int → List Int × Nat × σ) : τ → List Int → List Int × Nat × τ := fun t l => ((g (get t) l).1, (g (get t) l).2.1, put t (g (get t) l).2.2)
variable {get put} {f : σ → List Int → Option (List Int × Nat × σ)} {g : σ → List Int → List Int × Nat × σ}
theorem liftF_some {t t' : τ} {l o : List Int} {k : Nat} (h : liftF get put f t l = some (o, k, t')) : ∃ s', f (get t) l = some (o, k, s') ∧ put t s' = t' := by
  unfold liftF at h
  cases hq : f (get t) l with
  | none => rw [hq] at h; cases h
  | some r =>
    obtain ⟨o2, k2, s2⟩ := r
    rw [hq] at h
    simp only [Option.map_some, Option.some.injEq, Prod.mk.injEq] at h
    obtain ⟨rfl, rfl, rfl⟩ := h
    exact ⟨s2, rfl, rfl⟩
theorem liftF_none {t : τ} {l : List Int} : liftF get put f t l = none ↔ f (get t) l = none := by
  unfold liftF
  cases f (get t) l <;> simp
theorem lift_steps (hf : Steps f) : Steps (liftF get put f) where
  size := by
    intro t l o k t' h
    obtain ⟨s', h1, _⟩ := liftF_some h
    exact hf.size _ _ _ _ _ h1
  stay := by
    intro t l u r h
    obtain ⟨o, k, t'⟩ := r
    obtain ⟨s', h1, h2⟩ := liftF_some h
    unfold liftF
    rw [hf.stay _ _ u _ h1]
    simp [h2]
theorem lift_whole (hp : ∀ t s, get (put t s) = s) (hg : Whole f g) : Whole (liftF get put f) (liftG get put g) where
  size := fun t l hl => hg.size (get t) l hl
  take := by
    intro t l o k t' n h hk hn hx
    obtain ⟨s', h1, rfl⟩ := liftF_some h
    have := hg.take (get t) l o k s' n h1 hk hn (by
      rcases hx with hx | ⟨o2, k2, t2, h2, h3⟩
      · exact .inl hx
      · obtain ⟨s2, h4, _⟩ := liftF_some h2
        rw [hp] at h4
        exact .inr ⟨o2, k2, s2, h4, h3⟩)
    unfold liftG
    rw [this]
  all := by
    intro t l o k t' h
    obtain ⟨s', h1, rfl⟩ := liftF_some h
    unfold liftG
    rw [hg.all _ _ _ _ _ h1]
theorem lift_run (hp : ∀ t s, get (put t s) = s) (hpp : ∀ t s s', put (put t s) s' = put t s') (hpg : ∀ t, put t (get t) = t) (hf : Steps f) (t : τ) (l : List Int) :
    Run (liftF get put f) t l = ((Run f (get t) l).1, put t (Run f (get t) l).2.1, (Run f (get t) l).2.2) := by
  have H : ∀ s l, ∀ t : τ, get t = s → Run (liftF get put f) t l = ((Run f s l).1, put t (Run f s l).2.1, (Run f s l).2.2) := by
    intro s l
    refine Run_ind (C := fun s l => ∀ t : τ, get t = s → Run (liftF get put f) t l = ((Run f s l).1, put t (Run f s l).2.1, (Run f s l).2.2)) hf ?_ ?_ s l
    · intro s l h t ht
      rw [Run_wait h, Run_wait (liftF_none.2 (by rw [ht]; exact h))]
      subst ht
      simp only [hpg]
    · intro s l o k s' h ih t ht
      subst ht
      have h2 : liftF get put f t l = some (o, k, put t s') := by unfold liftF; rw [h]; rfl
      rw [Run_step hf h, Run_step (lift_steps hf) h2, ih (put t s') (hp t s')]
      simp only [hpp]
  exact H _ l t rfl
theorem lift_tot (hp : ∀ t s, get (put t s) = s) (hpp : ∀ t s s', put (put t s) s' = put t s') (hpg : ∀ t, put t (get t) = t) (hs : ∀ s l, l ≠ [] → 1 ≤ (g s l).2.1 ∧ (g s l).2.1 ≤ l.length) : ∀ (n : Nat) (t : τ) (l : List Int), l.length ≤ n →
    Tot (liftG get put g) t l = ((Tot g (get t) l).1, put t (Tot g (get t) l).2)
  | 0, t, l, h => by
    have : l = [] := List.eq_nil_of_length_eq_zero (by omega)
    subst this
    rw [Tot_nil, Tot_nil]; simp only [hpg]
  | n + 1, t, l, h => by
    by_cases hl : l = []
    · subst hl; rw [Tot_nil, Tot_nil]; simp only [hpg]
    · have h3 := hs (get t) l hl
      rw [Tot_step hs (s' := (g (get t) l).2.2) (o := (g (get t) l).1) (k := (g (get t) l).2.1) hl rfl]
      rw [Tot_step (g := liftG get put g) (fun t l hl => hs (get t) l hl) (s' := put t (g (get t) l).2.2) (o := (g (get t) l).1) (k := (g (get t) l).2.1) hl rfl]
      rw [lift_tot hp hpp hpg hs n (put t (g (get t) l).2.2) (l.drop (g (get t) l).2.1) (by simp; omega)]
      simp only [hp, hpp]
end

/-- The state of a decoder: which signs, whether an escape stood just ahead, whether it has stopped. -/
abbrev St := Int × Bool × Bool
def st0 : St := (0, false, false)
def getU (_ : St) : Unit := ()
def putU (t : St) (_ : Unit) : St := t
def getK (t : St) : Int × Bool := (t.1, t.2.1)
def putK (t : St) (s : Int × Bool) : St := (s.1, s.2, t.2.2)
def getX (t : St) : Bool := t.2.2
def putX (t : St) (b : Bool) : St := (t.1, t.2.1, b)

def FE (e : Int) : St → List Int → Option (List Int × Nat × St) :=
  if e = 1 then liftF getU putU f8 else if e = 2 then liftF getU putU (f16 false) else if e = 3 then liftF getU putU (f16 true) else if e = 4 then liftF getU putU (fS false) else if e = 5 then liftF getU putU (fS true) else if e = 6 then liftF getK putK fk else liftF getX putX fX
def GE (e : Int) : St → List Int → List Int × Nat × St :=
  if e = 1 then liftG getU putU g8 else if e = 2 then liftG getU putU (g16 false) else if e = 3 then liftG getU putU (g16 true) else if e = 4 then liftG getU putU (gS false) else if e = 5 then liftG getU putU (gS true) else if e = 6 then liftG getK putK gk else liftG getX putX gX
theorem FE_steps (e : Int) : Steps (FE e) := by
  unfold FE
  split
  · exact lift_steps f8_steps
  · split
    · exact lift_steps (f16_steps false)
    · split
      · exact lift_steps (f16_steps true)
      · split
        · exact lift_steps (fS_steps false)
        · split
          · exact lift_steps (fS_steps true)
          · split
            · exact lift_steps fk_steps
            · exact lift_steps fX_steps
theorem GE_whole (e : Int) : Whole (FE e) (GE e) := by
  unfold FE GE
  split
  · exact lift_whole (fun _ _ => rfl) g8_whole
  · split
    · exact lift_whole (fun _ _ => rfl) (g16_whole false)
    · split
      · exact lift_whole (fun _ _ => rfl) (g16_whole true)
      · split
        · exact lift_whole (fun _ _ => rfl) (gS_whole false)
        · split
          · exact lift_whole (fun _ _ => rfl) (gS_whole true)
          · split
            · exact lift_whole (fun _ _ => rfl) gk_whole
            · exact lift_whole (fun _ _ => rfl) gX_whole
/-- What is told of bytes that came, and what waits; what is told if nothing more comes. -/
def RE (e : Int) (t : St) (l : List Int) : List Int × St × List Int := Run (FE e) t l
def TE (e : Int) (t : St) (l : List Int) : List Int × St := Tot (GE e) t l
def decE (e : Int) (l : List Int) : List Int := (TE e st0 l).1

theorem RE_8 (t : St) (l : List Int) : RE 1 t l = ((Run f8 () l).1, t, (Run f8 () l).2.2) := lift_run (get := getU) (put := putU) (fun _ _ => rfl) (fun _ _ _ => rfl) (fun _ => rfl) f8_steps t l
theorem RE_16l (t : St) (l : List Int) : RE 2 t l = ((Run (f16 false) () l).1, t, (Run (f16 false) () l).2.2) := lift_run (get := getU) (put := putU) (fun _ _ => rfl) (fun _ _ _ => rfl) (fun _ => rfl) (f16_steps false) t l
theorem RE_16b (t : St) (l : List Int) : RE 3 t l = ((Run (f16 true) () l).1, t, (Run (f16 true) () l).2.2) := lift_run (get := getU) (put := putU) (fun _ _ => rfl) (fun _ _ _ => rfl) (fun _ => rfl) (f16_steps true) t l
theorem RE_L (t : St) (l : List Int) : RE 4 t l = (decS false l, t, []) := by
  have := lift_run (get := getU) (put := putU) (fun _ _ => rfl) (fun _ _ _ => rfl) (fun _ => rfl) (fS_steps false) t l
  rw [fS_run] at this; exact this
theorem RE_U (t : St) (l : List Int) : RE 5 t l = (decS true l, t, []) := by
  have := lift_run (get := getU) (put := putU) (fun _ _ => rfl) (fun _ _ _ => rfl) (fun _ => rfl) (fS_steps true) t l
  rw [fS_run] at this; exact this
theorem RE_K (t : St) (l : List Int) : RE 6 t l = ((Run fk (t.1, t.2.1) l).1, ((Run fk (t.1, t.2.1) l).2.1.1, (Run fk (t.1, t.2.1) l).2.1.2, t.2.2), (Run fk (t.1, t.2.1) l).2.2) := lift_run (get := getK) (put := putK) (fun _ _ => rfl) (fun _ _ _ => rfl) (fun _ => rfl) fk_steps t l
theorem RE_X (t : St) (l : List Int) : RE 7 t l = (if t.2.2 || l.isEmpty then [] else [65533], (t.1, t.2.1, t.2.2 || !l.isEmpty), []) := by
  have := lift_run (get := getX) (put := putX) (fun _ _ => rfl) (fun _ _ _ => rfl) (fun _ => rfl) fX_steps t l
  rw [fX_run] at this; exact this
theorem TE_8 (t : St) (l : List Int) : TE 1 t l = (dec l, t) := by
  have := lift_tot (get := getU) (put := putU) (fun _ _ => rfl) (fun _ _ _ => rfl) (fun _ => rfl) g8_size l.length t l (Nat.le_refl _)
  rw [show Tot g8 (getU t) l = ((Tot g8 () l).1, ()) from rfl, g8_dec] at this; exact this
theorem TE_16 (big : Bool) (t : St) (l : List Int) : TE (if big then 3 else 2) t l = (dec16 big l, t) := by
  have := lift_tot (get := getU) (put := putU) (fun _ _ => rfl) (fun _ _ _ => rfl) (fun _ => rfl) (g16_size big) l.length t l (Nat.le_refl _)
  rw [show Tot (g16 big) (getU t) l = ((Tot (g16 big) () l).1, ()) from rfl, g16_dec big _ l (Nat.le_refl _)] at this
  cases big <;> exact this
theorem TE_S (user : Bool) (t : St) (l : List Int) : TE (if user then 5 else 4) t l = (decS user l, t) := by
  have := lift_tot (get := getU) (put := putU) (fun _ _ => rfl) (fun _ _ _ => rfl) (fun _ => rfl) (gS_whole user).size l.length t l (Nat.le_refl _)
  rw [show Tot (gS user) (getU t) l = ((Tot (gS user) () l).1, ()) from rfl, gS_dec user] at this
  cases user <;> exact this
theorem TE_K (t : St) (l : List Int) : TE 6 t l = ((Tot gk (t.1, t.2.1) l).1, ((Tot gk (t.1, t.2.1) l).2.1, (Tot gk (t.1, t.2.1) l).2.2, t.2.2)) := lift_tot (get := getK) (put := putK) (fun _ _ => rfl) (fun _ _ _ => rfl) (fun _ => rfl) gk_size l.length t l (Nat.le_refl _)
theorem TE_X (t : St) (l : List Int) : TE 7 t l = (if t.2.2 || l.isEmpty then [] else [65533], (t.1, t.2.1, t.2.2 || !l.isEmpty)) := by
  have := lift_tot (get := getX) (put := putX) (fun _ _ => rfl) (fun _ _ _ => rfl) (fun _ => rfl) gX_whole.size l.length t l (Nat.le_refl _)
  rw [gX_tot] at this; exact this

/-! ### what waits -/
theorem f8_waits (l : List Int) : ((Run f8 () l).2.2.length : Int) = spl l := by
  refine Run_ind (C := fun s l => ((Run f8 s l).2.2.length : Int) = spl l) f8_steps ?_ ?_ () l
  · intro s l h
    rw [Run_wait h]
    by_cases hl : l = []
    · subst hl; rfl
    · unfold f8 at h
      rw [if_neg hl] at h
      have ho : (nxt l).2.2 = true := by
        cases hq : (nxt l).2.2 with
        | true => rfl
        | false => rw [hq] at h; cases h
      have e := nxt_open (l := l) (q := (nxt l).1) (j := (nxt l).2.1) (by rw [← ho])
      unfold spl lft
      rw [pieces_ne hl, List.foldl_cons, ho, e.2.1]
      simp [pieces_nil]
  · intro s l o k s' h ih
    rw [Run_step f8_steps h]
    unfold f8 at h
    split at h
    · cases h
    · rename_i hl
      split at h
      · cases h
      · rename_i ho
        simp only [Option.some.injEq, Prod.mk.injEq] at h
        obtain ⟨rfl, rfl, _⟩ := h
        rw [spl_ne hl (Bool.eq_false_iff.2 ho), ← ih]
/-- How many integers of UTF-16 wait at the end. -/
def lastW (big : Bool) : List Int → Int
  | [a, b] => ut big a b
  | [a, b, _] => ut big a b
  | _ :: _ :: t => lastW big t
  | _ => 0
theorem lastW_drop (big : Bool) (a b : Int) {t : List Int} (h : 2 ≤ t.length) : lastW big (a :: b :: t) = lastW big t := by
  match t, h with
  | c :: d :: [], _ => rfl
  | c :: d :: e :: u, _ => rfl
theorem fst16_0 : fst16 0 = false := by decide
def wu (big : Bool) (l : List Int) : Nat := l.length % 2 + (if fst16 (lastW big l) then 2 else 0)
theorem f16_wu (big : Bool) (l : List Int) : (Run (f16 big) () l).2.2.length = wu big l := by
  refine Run_ind (C := fun s l => (Run (f16 big) s l).2.2.length = wu big l) (f16_steps big) ?_ ?_ () l
  · intro s l h
    rw [Run_wait h]
    match l, h with
    | [], _ => rfl
    | [a], _ => rfl
    | [a, b], h =>
      cases hq : fst16 (ut big a b) with
      | true => simp [wu, lastW, hq]
      | false => simp [f16, hq] at h
    | [a, b, c], h =>
      cases hq : fst16 (ut big a b) with
      | true => simp [wu, lastW, hq]
      | false => simp [f16, hq] at h
    | a :: b :: c :: d :: t, h =>
      simp only [f16] at h
      split at h
      · split at h <;> cases h
      · cases h
  · intro s l o k s' h ih
    rw [Run_step (f16_steps big) h]
    show (Run (f16 big) s' (l.drop k)).2.2.length = wu big l
    rw [ih]
    match l, h with
    | [a, b], h =>
      cases hq : fst16 (ut big a b) with
      | true => simp [f16, hq] at h
      | false =>
        simp only [f16, hq] at h
        obtain ⟨rfl, rfl, _⟩ := h
        simp [wu, lastW, hq, fst16_0]
    | [a, b, c], h =>
      cases hq : fst16 (ut big a b) with
      | true => simp [f16, hq] at h
      | false =>
        simp only [f16, hq] at h
        obtain ⟨rfl, rfl, _⟩ := h
        simp [wu, lastW, hq, fst16_0]
    | a :: b :: c :: d :: t, h =>
      have e1 : lastW big (a :: b :: c :: d :: t) = lastW big (c :: d :: t) := lastW_drop big a b (by simp)
      cases hq : fst16 (ut big a b) with
      | false =>
        simp only [f16, hq] at h
        obtain ⟨rfl, rfl, _⟩ := h
        simp only [wu, e1]; simp; omega
      | true =>
        cases hs : snd16 (ut big c d) with
        | true =>
          simp only [f16, hq, hs, if_true, Option.some.injEq, Prod.mk.injEq] at h
          obtain ⟨rfl, rfl, _⟩ := h
          have hnf : fst16 (ut big c d) = false := by
            simp only [snd16, decide_eq_true_eq] at hs
            simp only [fst16, decide_eq_false_iff_not]; omega
          simp only [wu, e1]
          match t with
          | [] => simp [lastW, hnf, fst16_0]
          | [x] => simp [lastW, hnf, fst16_0]
          | x :: y :: u => rw [lastW_drop big c d (by simp)]; simp; omega
        | false =>
          simp only [f16, hq, hs, if_true] at h
          obtain ⟨rfl, rfl, _⟩ := h
          simp only [wu, e1]; simp; omega
/-- How many integers of shifted signs wait at the end. -/
def wk (l : List Int) : Nat := if [27, 40] <:+ l then 2 else if [27] <:+ l then 1 else 0
theorem suffix_cons {c : Int} {t m : List Int} (h : m.length ≤ t.length) : m <:+ (c :: t) ↔ m <:+ t := by
  constructor
  · rintro ⟨p, hp⟩
    match p, hp with
    | [], hp => have := congrArg List.length hp; simp at this; omega
    | x :: p, hp => exact ⟨p, by simpa using (List.cons.inj hp).2⟩
  · rintro ⟨p, rfl⟩; exact ⟨c :: p, rfl⟩
theorem fk_wk (h : Int × Bool) (l : List Int) : (Run fk h l).2.2.length = wk l := by
  refine Run_ind (C := fun s l => (Run fk s l).2.2.length = wk l) fk_steps ?_ ?_ h l
  · intro s l h
    rw [Run_wait h]
    rcases fk_waits h with rfl | rfl | rfl
    · show 0 = wk []; decide
    · show 1 = wk [27]; decide
    · show 2 = wk [27, 40]; decide
  · intro s l o k s' h ih
    rw [Run_step fk_steps h]
    show (Run fk s' (l.drop k)).2.2.length = wk l
    rw [ih]
    match l, h with
    | [c], h =>
      simp only [fk] at h
      split at h
      · rename_i hc
        simp only [Option.some.injEq, Prod.mk.injEq] at h; obtain ⟨rfl, rfl, rfl⟩ := h
        have h1 : ¬ ([27, 40] : List Int) <:+ [c] := fun ⟨p, hp⟩ => by have := congrArg List.length hp; simp at this
        have h2 : ¬ ([27] : List Int) <:+ [c] := fun ⟨p, hp⟩ => by
          match p, hp with
          | [], hp => exact hc (List.cons.inj hp).1.symm
          | x :: p, hp => have := congrArg List.length hp; simp at this
        simp [wk, h1, h2]
      · cases h
    | [c, d], h =>
      have hk : k = 1 ∧ ¬ (c = 27 ∧ d = 40) := by
        simp only [fk] at h
        split at h
        · rename_i hc; simp only [Option.some.injEq, Prod.mk.injEq] at h; exact ⟨h.2.1.symm, fun q => hc q.1⟩
        · split at h
          · rename_i hd; simp only [Option.some.injEq, Prod.mk.injEq] at h; exact ⟨h.2.1.symm, fun q => hd q.2⟩
          · cases h
      obtain ⟨rfl, hn⟩ := hk
      have h1 : ¬ ([27, 40] : List Int) <:+ [c, d] := fun ⟨p, hp⟩ => by
        match p, hp with
        | [], hp => injection hp with e1 e2; injection e2 with e2 _; exact hn ⟨e1.symm, e2.symm⟩
        | x :: p, hp => have := congrArg List.length hp; simp at this
      have h3 : ¬ ([27, 40] : List Int) <:+ [d] := fun ⟨p, hp⟩ => by have := congrArg List.length hp; simp at this
      have h2 : ([27] : List Int) <:+ [c, d] ↔ ([27] : List Int) <:+ [d] := suffix_cons (by simp)
      simp only [wk, h1, h2]
      simp [h3]
    | c :: d :: e :: t, h =>
      have hk : k = 1 ∨ k = 3 ∧ d = 40 ∧ e ≠ 27 ∧ e ≠ 40 := by
        simp only [fk] at h
        split at h
        · simp only [Option.some.injEq, Prod.mk.injEq] at h; exact .inl h.2.1.symm
        · split at h
          · simp only [Option.some.injEq, Prod.mk.injEq] at h; exact .inl h.2.1.symm
          · rename_i hd
            simp at hd
            split at h
            · simp only [Option.some.injEq, Prod.mk.injEq] at h; exact .inr ⟨h.2.1.symm, by omega, by omega, by omega⟩
            · split at h
              · simp only [Option.some.injEq, Prod.mk.injEq] at h; exact .inr ⟨h.2.1.symm, by omega, by omega, by omega⟩
              · split at h
                · simp only [Option.some.injEq, Prod.mk.injEq] at h; exact .inr ⟨h.2.1.symm, by omega, by omega, by omega⟩
                · simp only [Option.some.injEq, Prod.mk.injEq] at h; exact .inl h.2.1.symm
      have a1 : ([27, 40] : List Int) <:+ c :: d :: e :: t ↔ ([27, 40] : List Int) <:+ d :: e :: t := suffix_cons (by simp)
      have a2 : ([27] : List Int) <:+ c :: d :: e :: t ↔ ([27] : List Int) <:+ d :: e :: t := suffix_cons (by simp)
      rcases hk with rfl | ⟨rfl, hd, he, he2⟩
      · simp only [wk, a1, a2]; simp
      · have b2 : ([27] : List Int) <:+ d :: e :: t ↔ ([27] : List Int) <:+ e :: t := suffix_cons (by simp)
        have b1 : ([27, 40] : List Int) <:+ d :: e :: t ↔ ([27, 40] : List Int) <:+ e :: t := by
          match t with
          | [] =>
            constructor
            · rintro ⟨p, hp⟩
              match p, hp with
              | [], hp => injection hp with e1 e2; omega
              | x :: p, hp => have := congrArg List.length hp; simp at this
            · rintro ⟨p, hp⟩; have := congrArg List.length hp; simp at this
          | x :: u => exact suffix_cons (by simp)
        have c2 : ([27] : List Int) <:+ e :: t ↔ ([27] : List Int) <:+ t := by
          match t with
          | [] =>
            constructor
            · rintro ⟨p, hp⟩
              match p, hp with
              | [], hp => injection hp with e1 e2; omega
              | x :: p, hp => have := congrArg List.length hp; simp at this
            · rintro ⟨p, hp⟩; have := congrArg List.length hp; simp at this
          | x :: u => exact suffix_cons (by simp)
        have c1 : ([27, 40] : List Int) <:+ e :: t ↔ ([27, 40] : List Int) <:+ t := by
          match t with
          | [] =>
            constructor
            · rintro ⟨p, hp⟩; have := congrArg List.length hp; simp at this
            · rintro ⟨p, hp⟩; have := congrArg List.length hp; simp at this
          | [x] =>
            constructor
            · rintro ⟨p, hp⟩
              match p, hp with
              | [], hp => injection hp with e1 e2; omega
              | x :: p, hp => have := congrArg List.length hp; simp at this
            · rintro ⟨p, hp⟩; have := congrArg List.length hp; simp at this
          | x :: y :: u => exact suffix_cons (by simp)
        simp only [wk, a1, a2, b1, b2, c1, c2]
        simp
/-- How many integers wait at the end of a text, of each encoding. -/
def wE (e : Int) (l : List Int) : Int := if e = 1 then spl l else if e = 2 then wu false l else if e = 3 then wu true l else if e = 6 then wk l else 0
theorem RE_waits {e : Int} (he : 1 ≤ e ∧ e ≤ 7) (t : St) (l : List Int) : ((RE e t l).2.2.length : Int) = wE e l := by
  obtain rfl | rfl | rfl | rfl | rfl | rfl | rfl : e = 1 ∨ e = 2 ∨ e = 3 ∨ e = 4 ∨ e = 5 ∨ e = 6 ∨ e = 7 := by omega
  · rw [RE_8]; exact f8_waits l
  · rw [RE_16l]; show ((Run (f16 false) () l).2.2.length : Int) = _; rw [f16_wu]; rfl
  · rw [RE_16b]; show ((Run (f16 true) () l).2.2.length : Int) = _; rw [f16_wu]; rfl
  · rw [RE_L]; rfl
  · rw [RE_U]; rfl
  · rw [RE_K]; show ((Run fk (t.1, t.2.1) l).2.2.length : Int) = _; rw [fk_wk]; rfl
  · rw [RE_X]; rfl
end Go.Proofs.YtaiinjfnkmidbaaGreatDoor.M

namespace Go.Proofs.YtaiinjfnkmidbaaGreatDoor.M

def Ok (e : Int) (t : St) : Prop := Sg t.1 ∧ (e ≠ 6 → t.1 = 0 ∧ t.2.1 = false) ∧ (e ≠ 7 → t.2.2 = false)
theorem Ok_st0 (e : Int) : Ok e st0 := ⟨.inl rfl, fun _ => ⟨rfl, rfl⟩, fun _ => rfl⟩
theorem fk_sg {s s' : Int × Bool} {l o : List Int} {k : Nat} (h : fk s l = some (o, k, s')) (hs : Sg s.1) : Sg s'.1 := by
  have := (gk_all s l o k s' h).1
  unfold gk at this
  cases he : kesc l with
  | none => rw [he] at this; injection this with _ h2; injection h2 with _ h3; rw [← h3]; exact hs
  | some g => rw [he] at this; injection this with _ h2; injection h2 with _ h3; rw [← h3]; exact (kesc_len he).2
theorem Run_sg (s : Int × Bool) (l : List Int) : Sg s.1 → Sg (Run fk s l).2.1.1 := by
  refine Run_ind (C := fun s l => Sg s.1 → Sg (Run fk s l).2.1.1) fk_steps ?_ ?_ s l
  · intro s l h hs; rw [Run_wait h]; exact hs
  · intro s l o k s' h ih hs; rw [Run_step fk_steps h]; exact ih (fk_sg h hs)
theorem seven {e : Int} (he : 1 ≤ e ∧ e ≤ 7) : e = 1 ∨ e = 2 ∨ e = 3 ∨ e = 4 ∨ e = 5 ∨ e = 6 ∨ e = 7 := by omega
theorem Ok_run {e : Int} (he : 1 ≤ e ∧ e ≤ 7) {t : St} (h : Ok e t) (l : List Int) : Ok e (RE e t l).2.1 := by
  obtain rfl | rfl | rfl | rfl | rfl | rfl | rfl := seven he
  · rw [RE_8]; exact h
  · rw [RE_16l]; exact h
  · rw [RE_16b]; exact h
  · rw [RE_L]; exact h
  · rw [RE_U]; exact h
  · rw [RE_K]; exact ⟨Run_sg _ l h.1, fun q => absurd rfl q, fun q => h.2.2 q⟩
  · rw [RE_X]; exact ⟨h.1, h.2.1, fun q => absurd rfl q⟩
theorem spl_le (l : List Int) : spl l ≤ 3 := by
  obtain ⟨n, h, h3, _⟩ := cut_at l
  rw [h]; omega
theorem wE_bd {e : Int} (he : 1 ≤ e ∧ e ≤ 7) (l : List Int) : 0 ≤ wE e l ∧ wE e l ≤ 3 ∧ wE e l ≤ l.length := by
  have h := RE_waits he st0 l
  obtain ⟨n, hn, hl⟩ := Run_end (FE_steps e) st0 l
  have h2 : (RE e st0 l).2.2.length ≤ l.length := by
    show (Run (FE e) st0 l).2.2.length ≤ _
    rw [hn, List.length_drop]; omega
  refine ⟨by omega, ?_, by omega⟩
  obtain rfl | rfl | rfl | rfl | rfl | rfl | rfl := seven he
  · exact spl_le l
  · show ((wu false l : Nat) : Int) ≤ 3
    unfold wu; split <;> omega
  · show ((wu true l : Nat) : Int) ≤ 3
    unfold wu; split <;> omega
  · show (0 : Int) ≤ 3; omega
  · show (0 : Int) ≤ 3; omega
  · show ((wk l : Nat) : Int) ≤ 3
    unfold wk; split
    · omega
    · split <;> omega
  · show (0 : Int) ≤ 3; omega
/-- What waits: the end of the text, of that length. -/
theorem RE_rest {e : Int} (he : 1 ≤ e ∧ e ≤ 7) (t : St) (l : List Int) : (RE e t l).2.2 = l.drop (l.length - (wE e l).toNat) := by
  have h := RE_waits he t l
  have hb := wE_bd he l
  obtain ⟨n, hn, hl⟩ := Run_end (FE_steps e) t l
  have hn' : (RE e t l).2.2 = l.drop n := hn
  have h2 := congrArg List.length hn'
  rw [List.length_drop] at h2
  rw [hn']
  congr 1
  omega
/-- What is told of all that does not wait. -/
theorem TE_take {e : Int} (he : 1 ≤ e ∧ e ≤ 7) (t : St) (l : List Int) : TE e t (l.take (l.length - (wE e l).toNat)) = ((RE e t l).1, (RE e t l).2.1) :=
  Tot_take (FE_steps e) (GE_whole e) t l _ (Nat.sub_le _ _) (RE_rest he t l)
theorem RE_few {e : Int} (he : 1 ≤ e ∧ e ≤ 7) (t : St) (l : List Int) : (RE e t l).2.2.length ≤ 3 := by
  have h := RE_waits he t l
  have := wE_bd he l
  omega
/-- What waits waits again. -/
theorem RE_left {e : Int} (he : 1 ≤ e ∧ e ≤ 7) (t : St) (l : List Int) : wE e (RE e t l).2.2 = (RE e t l).2.2.length := by
  have h := Run_left (FE_steps e) t l
  have h2 := RE_waits he (RE e t l).2.1 (RE e t l).2.2
  have h3 : RE e (RE e t l).2.1 (RE e t l).2.2 = ([], (RE e t l).2.1, (RE e t l).2.2) := Run_wait h
  rw [h3] at h2
  exact h2.symm
theorem RE_app (e : Int) (t : St) (l m : List Int) : RE e t (l ++ m) = ((RE e t l).1 ++ (RE e (RE e t l).2.1 ((RE e t l).2.2 ++ m)).1, (RE e (RE e t l).2.1 ((RE e t l).2.2 ++ m)).2) := Run_app (FE_steps e) t l m
theorem TE_run (e : Int) (t : St) (l : List Int) : TE e t l = ((RE e t l).1 ++ (TE e (RE e t l).2.1 (RE e t l).2.2).1, (TE e (RE e t l).2.1 (RE e t l).2.2).2) := Tot_run (FE_steps e) (GE_whole e) t l
theorem GE_few (e : Int) (t : St) (l : List Int) (hl : l ≠ []) : (GE e t l).1.length ≤ (GE e t l).2.1 := by
  have h8 := g8_size () l hl
  unfold GE
  split
  · exact h8.1
  · split
    · exact (g16_size false () l hl).1
    · split
      · exact (g16_size true () l hl).1
      · split
        · exact Nat.le_refl _
        · split
          · exact Nat.le_refl _
          · split
            · show (gk (getK t) l).1.length ≤ (gk (getK t) l).2.1
              unfold gk
              cases kesc l with
              | none => exact Nat.le_refl _
              | some g => show (bads _).length ≤ 3; unfold bads; split <;> simp
            · show (if (getX t) then ([] : List Int) else [65533]).length ≤ 1; split <;> simp
theorem TE_few (e : Int) : ∀ (n : Nat) (t : St) (l : List Int), l.length ≤ n → (TE e t l).1.length ≤ l.length
  | 0, t, l, h => by
    have : l = [] := List.eq_nil_of_length_eq_zero (by omega)
    subst this; unfold TE; rw [Tot_nil]; simp
  | n + 1, t, l, h => by
    by_cases h0 : l = []
    · subst h0; unfold TE; rw [Tot_nil]; simp
    · have hs := (GE_whole e).size t l h0
      have hf := GE_few e t l h0
      have ih := TE_few e n (GE e t l).2.2 (l.drop (GE e t l).2.1) (by simp; omega)
      unfold TE at *
      rw [Tot_step (GE_whole e).size (s' := (GE e t l).2.2) (o := (GE e t l).1) (k := (GE e t l).2.1) h0 rfl]
      simp only [List.length_append]
      rw [List.length_drop] at ih
      omega
theorem RE_out {e : Int} (he : 1 ≤ e ∧ e ≤ 7) (t : St) (l : List Int) : (RE e t l).1.length ≤ l.length := by
  have h := TE_take he t l
  have h2 := TE_few e _ t (l.take (l.length - (wE e l).toNat)) (Nat.le_refl _)
  rw [h, List.length_take] at h2
  have h3 : (RE e t l).1.length ≤ min (l.length - (wE e l).toNat) l.length := h2
  omega
end Go.Proofs.YtaiinjfnkmidbaaGreatDoor.M

namespace Go.Proofs.YtaiinjfnkmidbaaGreatDoor
open Go.RowKit
set_option linter.unusedVariables false

/-- The encoding that is chosen, why, and how many bytes of a mark stand ahead. -/
def chI (name : ByteArray) (l : List Int) : Int × Int × Int :=
  if (M.sn l).1 ≠ 0 then ((M.sn l).1, 1, (M.sn l).2) else if findI name ≠ 0 then (findI name, 2, 0) else if scnI l ≠ 0 then (scnI l, 3, 0) else (4, 4, 0)
/-- Is it enough to choose? -/
def enF (name : ByteArray) (l : List Int) : Bool := decide ((M.sn l).1 ≠ 0) || (decide (256 ≤ l.length) || (decide (findI name ≠ 0) && decide (3 ≤ l.length)))
theorem may_long {l : List Int} (h : 3 ≤ l.length) : M.may l = false := by
  unfold M.may
  refine decide_eq_false ?_
  rintro (rfl | rfl | rfl | rfl | rfl) <;> simp at h
theorem chI_mark {name : ByteArray} {l : List Int} (h : (M.sn l).1 ≠ 0) : chI name l = ((M.sn l).1, 1, (M.sn l).2) := by unfold chI; rw [if_pos h]
theorem chI_label {name : ByteArray} {l : List Int} (h : (M.sn l).1 = 0) (h1 : findI name ≠ 0) : chI name l = (findI name, 2, 0) := by unfold chI; rw [if_neg (by simp [h]), if_pos h1]
theorem chI_meta {name : ByteArray} {l : List Int} (h : (M.sn l).1 = 0) (h1 : findI name = 0) (h2 : scnI l ≠ 0) : chI name l = (scnI l, 3, 0) := by unfold chI; rw [if_neg (by simp [h]), if_neg (by simp [h1]), if_pos h2]
theorem chI_none {name : ByteArray} {l : List Int} (h : (M.sn l).1 = 0) (h1 : findI name = 0) (h2 : scnI l = 0) : chI name l = (4, 4, 0) := by unfold chI; rw [if_neg (by simp [h]), if_neg (by simp [h1]), if_neg (by simp [h2])]
/-- Where it is enough, what comes behind changes nothing. -/
theorem chI_more {name : ByteArray} {l : List Int} (h : enF name l = true) (m : List Int) : chI name (l ++ m) = chI name l := by
  by_cases h0 : (M.sn l).1 = 0
  · have h3 : 3 ≤ l.length := by
      unfold enF at h
      simp [h0] at h
      omega
    have hs : (M.sn (l ++ m)).1 = 0 := M.sn_none h0 (may_long h3) m
    by_cases h1 : findI name = 0
    · have h256 : 256 ≤ l.length := by
        unfold enF at h
        simp [h0, h1] at h
        exact h
      have e := scnI_more (l := l) (m := m) h256
      by_cases h2 : scnI l = 0
      · rw [chI_none h0 h1 h2, chI_none hs h1 (by rw [e]; exact h2)]
      · rw [chI_meta h0 h1 h2, chI_meta hs h1 (by rw [e]; exact h2), e]
    · rw [chI_label h0 h1, chI_label hs h1]
  · have e := (M.sn_some h0 m).1
    rw [chI_mark h0, chI_mark (by rw [e]; exact h0), e]
theorem enF_more {name : ByteArray} {l : List Int} (h : enF name l = true) (m : List Int) : enF name (l ++ m) = true := by
  unfold enF at *
  simp only [Bool.or_eq_true, Bool.and_eq_true, decide_eq_true_eq, List.length_append] at *
  rcases h with h | h | h
  · exact .inl (by rw [(M.sn_some h m).1]; exact h)
  · exact .inr (.inl (by omega))
  · exact .inr (.inr ⟨h.1, by omega⟩)
theorem enF_few {name : ByteArray} {l : List Int} (h : enF name l = false) : l.length < 256 := by
  unfold enF at h
  simp only [Bool.or_eq_false_iff, decide_eq_false_iff_not] at h
  omega
theorem sn_bd (l : List Int) : 0 ≤ (M.sn l).1 ∧ (M.sn l).1 ≤ 3 ∧ 0 ≤ (M.sn l).2 ∧ (M.sn l).2 ≤ 3 ∧ (M.sn l).2 ≤ l.length := by
  rcases M.sn_cases l with ⟨t, rfl, e⟩ | ⟨t, rfl, e⟩ | ⟨t, rfl, e⟩ | ⟨e, _⟩ <;> rw [e] <;> simp <;> omega
theorem chI_bd (name : ByteArray) (l : List Int) : (1 ≤ (chI name l).1 ∧ (chI name l).1 ≤ 7) ∧ (1 ≤ (chI name l).2.1 ∧ (chI name l).2.1 ≤ 4) ∧ 0 ≤ (chI name l).2.2 ∧ (chI name l).2.2 ≤ 3 ∧ (chI name l).2.2 ≤ l.length := by
  have hs := sn_bd l
  have hf := findI_bd name
  obtain ⟨t0, t7, _, _, _⟩ := scnI_told l
  unfold chI
  split
  · simp only; omega
  · split
    · simp only; omega
    · split
      · simp only; omega
      · simp
/-- What a whole text tells, its encoding, and why. -/
def whI (name : ByteArray) (l : List Int) : List Int := M.decE (chI name l).1 (l.drop (chI name l).2.2.toNat)
end Go.Proofs.YtaiinjfnkmidbaaGreatDoor

namespace Go.Proofs.YtaiinjfnkmidbaaGreatDoor
open Go.RowKit
set_option linter.unusedVariables false

theorem two_of (s : ByteArray) (h : 2 ≤ s.size) : s.data.toList.take 2 = [s[0], s[1]] := by
  obtain ⟨d⟩ := s
  obtain ⟨l⟩ := d
  match l, h with
  | a :: b :: t, h => rfl
theorem lead_eq (s : ByteArray) (h : 2 ≤ s.size) : ((s.extract 0 2).toList == ([27, 40] : List UInt8)) = decide (s[0].toNat = 27 ∧ s[1].toNat = 40) := by
  have e2 : (s.extract 0 2).toList = [s[0], s[1]] := by
    rw [Lib.toList_data, ByteArray.data_extract, ← two_of s h]
    simp
  rw [e2, Bool.eq_iff_iff]
  simp only [beq_iff_eq, decide_eq_true_eq, List.cons.injEq, and_true]
  rw [← UInt8.toNat_inj, ← UInt8.toNat_inj]
  simp

set_option maxHeartbeats 400000 in
set_option maxRecDepth 100000 in
theorem prefix_any (s : ByteArray) (w : World) (h : 2 ≤ s.size) (hm : s.size ≤ maxLen) :
    Calls Tryz.prog 69 #[.string s, .string ⟨#[27, 40]⟩] w fun e w' => e = .returned (.bool (decide (s[0].toNat = 27 ∧ s[1].toNat = 40))) ∧ w' = w := by
  unfold maxLen at hm
  rw [← lead_eq s h]
  have hz : (⟨#[27, 40]⟩ : ByteArray).size = 2 := rfl
  go_enter Tryz.func69, Tryz.ntmps69
  go_wp2
  · go_ret
    refine ⟨?_, rfl⟩
    rfl

theorem index_any (u : UInt8) : Lib.indexByte [66, 74, 73] u = if u = 66 then 0 else if u = 74 then 1 else if u = 73 then 2 else -1 := by
  by_cases h1 : u = 66
  · subst h1; decide
  · by_cases h2 : u = 74
    · subst h2; decide
    · by_cases h3 : u = 73
      · subst h3; decide
      · simp [Lib.indexByte, h1, h2, h3, Ne.symm h1, Ne.symm h2, Ne.symm h3]

set_option maxHeartbeats 400000 in
set_option maxRecDepth 100000 in
theorem indexByte_lib (s : ByteArray) (c : Int) (w : World) :
    Calls Tryz.prog 229 #[.string s, .int .u8 c] w fun e w' => e = .returned (.int .i64 (Lib.indexByte s.data.toList c.toNat.toUInt8)) ∧ w' = w := by
  go_enter Tryz.func229, Tryz.ntmps229
  go_wp2
  rw [run_callFunc_extern Tryz.func237 (by kernel_rfl) (by kernel_rfl) (by kernel_rfl) (e := Extern.BytealgIndexByte.indexByte) (by kernel_rfl), Lib.run_indexByteString]
  simp only [Result.andThen]
  rw [Oper.upon_value]
  go_wp2
  go_ret
  exact ⟨rfl, rfl⟩

/-- Where a byte stands among those that end an escape. -/
def fin3 (c : Int) : Int := if c = 66 then 0 else if c = 74 then 1 else if c = 73 then 2 else -1

set_option maxHeartbeats 400000 in
set_option maxRecDepth 100000 in
theorem indexByte_any (c : Int) (w : World) (h0 : 0 ≤ c) (h1 : c < 256) :
    Calls Tryz.prog 209 #[.string ⟨#[66, 74, 73]⟩, .int .u8 c] w fun e w' => e = .returned (.int .i64 (fin3 c)) ∧ w' = w := by
  have e : Lib.indexByte (⟨#[66, 74, 73]⟩ : ByteArray).data.toList c.toNat.toUInt8 = fin3 c := by
    rw [show (⟨#[66, 74, 73]⟩ : ByteArray).data.toList = [66, 74, 73] from rfl, index_any]
    have hu : ∀ k : Nat, k < 256 → (c.toNat.toUInt8 = UInt8.ofNat k ↔ c = k) := by
      intro k hk
      rw [← UInt8.toNat_inj]
      simp only [Nat.toUInt8_eq, UInt8.toNat_ofNat']
      omega
    have a1 : c.toNat.toUInt8 = 66 ↔ c = 66 := hu 66 (by omega)
    have a2 : c.toNat.toUInt8 = 74 ↔ c = 74 := hu 74 (by omega)
    have a3 : c.toNat.toUInt8 = 73 ↔ c = 73 := hu 73 (by omega)
    unfold fin3
    by_cases b1 : c = 66
    · rw [if_pos b1, if_pos (a1.2 b1)]
    · rw [if_neg b1, if_neg (fun q => b1 (a1.1 q))]
      by_cases b2 : c = 74
      · rw [if_pos b2, if_pos (a2.2 b2)]
      · rw [if_neg b2, if_neg (fun q => b2 (a2.1 q))]
        by_cases b3 : c = 73
        · rw [if_pos b3, if_pos (a3.2 b3)]
        · rw [if_neg b3, if_neg (fun q => b3 (a3.1 q))]
  have H : ∀ w : World, Calls Tryz.prog 229 #[.string ⟨#[66, 74, 73]⟩, .int .u8 c] w fun e w' => e = .returned (.int .i64 (fin3 c)) ∧ w' = w := fun w => (indexByte_lib _ c w).mono fun e' w' h => by rw [e] at h; exact h
  clear e
  go_enter Tryz.func209, Tryz.ntmps209
  go_wp2_with fail
  refine (H _).mono ?_
  rintro e w1 ⟨rfl, hw⟩
  replace hw := hw.symm
  subst hw
  go_wp2_with fail
  go_ret
  exact ⟨rfl, rfl⟩

theorem kesc_three (s : ByteArray) (h : 3 ≤ s.size) : M.kesc (bl s) = if (s[0].toNat = 27 ∧ s[1].toNat = 40) then (if fin3 (s[2].toNat : Int) = -1 then none else some (fin3 (s[2].toNat : Int))) else none := by
  have e : bl s = (s[0].toNat : Int) :: (s[1].toNat : Int) :: (s[2].toNat : Int) :: (bl s).drop 3 := by
    have e0 := bl_drop s 0 (by omega)
    have e1 := bl_drop s 1 (by omega)
    have e2 := bl_drop s 2 (by omega)
    rw [e1, e2] at e0
    simpa using e0
  rw [e]
  simp only [M.kesc, fin3]
  by_cases a : s[0].toNat = 27 ∧ s[1].toNat = 40
  · rw [if_pos (by omega), if_pos a]
    repeat' split
    all_goals first | rfl | omega | (simp_all; done)
  · rw [if_neg (by omega), if_neg a]
theorem kesc_short (s : ByteArray) (h : s.size < 3) : M.kesc (bl s) = none := by
  cases hq : M.kesc (bl s) with
  | none => rfl
  | some g => have := M.kesc_len hq; rw [bl_len] at this; omega

set_option maxHeartbeats 400000 in
set_option maxRecDepth 100000 in
theorem readEscape_any (s : ByteArray) (w : World) (hm : s.size ≤ maxLen) :
    Calls Tryz.prog 223 #[.string s] w fun e w' => (∃ q, e = .returned (.tuple #[.int .i64 q, .bool (M.kesc (bl s)).isSome]) ∧ ∀ g, M.kesc (bl s) = some g → q = g) ∧ w' = w := by
  unfold maxLen at hm
  by_cases h3 : s.size < 3
  · have HK := hide (kesc_short s h3)
    go_enter Tryz.func223, Tryz.ntmps223
    go_wp2_with fail
    go_ret2
    rw [unhide HK]
    exact ⟨⟨_, rfl, fun g h => by cases h⟩, rfl⟩
  · have hz : 3 ≤ s.size := by omega
    have hc := s[2].toNat_lt
    have HK := hide (kesc_three s hz)
    by_cases a : s[0].toNat = 27 ∧ s[1].toNat = 40
    · rw [if_pos a] at HK
      have hp : ∀ w : World, Calls Tryz.prog 69 #[.string s, .string ⟨#[27, 40]⟩] w fun e w' => e = .returned (.bool true) ∧ w' = w := fun w => by
        have := prefix_any s w (by omega) (by unfold maxLen; omega)
        rwa [decide_eq_true a] at this
      obtain ⟨q, hq⟩ : ∃ q, fin3 (s[2].toNat : Int) = q := ⟨_, rfl⟩
      have hi : ∀ w : World, Calls Tryz.prog 209 #[.string ⟨#[66, 74, 73]⟩, .int .u8 (s[2].toNat : Int)] w fun e w' => e = .returned (.int .i64 q) ∧ w' = w := fun w => by
        have := indexByte_any (s[2].toNat : Int) w (by omega) (by omega)
        rwa [hq] at this
      have hb : -1 ≤ q ∧ q ≤ 2 := by
        rw [← hq]; unfold fin3
        (repeat' split) <;> omega
      rw [hq] at HK
      clear hq a
      by_cases h1 : q = -1
      · subst h1
        go_enter Tryz.func223, Tryz.ntmps223
        go_wp2_with fail
        refine (hp _).mono ?_
        rintro e w1 ⟨rfl, hw⟩
        replace hw := hw.symm
        subst hw
        go_wp2_with fail
        refine (hi _).mono ?_
        rintro e w1 ⟨rfl, hw⟩
        replace hw := hw.symm
        subst hw
        go_wp2_with fail
        go_ret2
        rw [unhide HK]
        exact ⟨⟨_, rfl, fun g h => by cases h⟩, rfl⟩
      · rw [if_neg h1] at HK
        have h0 : 0 ≤ q := by omega
        go_enter Tryz.func223, Tryz.ntmps223
        go_wp2_with fail
        refine (hp _).mono ?_
        rintro e w1 ⟨rfl, hw⟩
        replace hw := hw.symm
        subst hw
        go_wp2_with fail
        refine (hi _).mono ?_
        rintro e w1 ⟨rfl, hw⟩
        replace hw := hw.symm
        subst hw
        go_wp2_with fail
        go_ret2
        rw [unhide HK]
        exact ⟨⟨_, rfl, fun g h => Option.some.inj h⟩, rfl⟩
    · rw [if_neg a] at HK
      have hp : ∀ w : World, Calls Tryz.prog 69 #[.string s, .string ⟨#[27, 40]⟩] w fun e w' => e = .returned (.bool false) ∧ w' = w := fun w => by
        have := prefix_any s w (by omega) (by unfold maxLen; omega)
        rwa [decide_eq_false a] at this
      clear a
      go_enter Tryz.func223, Tryz.ntmps223
      go_wp2_with fail
      refine (hp _).mono ?_
      rintro e w1 ⟨rfl, hw⟩
      replace hw := hw.symm
      subst hw
      go_wp2_with fail
      go_ret2
      rw [unhide HK]
      exact ⟨⟨_, rfl, fun g h => by cases h⟩, rfl⟩

set_option maxHeartbeats 400000 in
set_option maxRecDepth 100000 in
theorem pointOf_any (g c : Int) (hg : M.Sg g) (h0 : 0 ≤ c) (h1 : c < 256) (w : World) :
    Calls Tryz.prog 224 #[.int .i64 g, .int .u8 c] w fun e w' => e = .returned (.int .i64 (M.kpt g c)) ∧ w' = w := by
  rcases hg with rfl | rfl | rfl
  · go_enter Tryz.func224, Tryz.ntmps224
    go_wp2
    all_goals (go_ret; refine ⟨ret_int ?_, rfl⟩; try simp only [beq_iff_eq, beq_eq_false_iff_ne] at *)
    all_goals (simp only [M.kpt, M.ksn]; (repeat' split) <;> first | omega | simp_all)
  · go_enter Tryz.func224, Tryz.ntmps224
    go_wp2
    all_goals (go_ret; refine ⟨ret_int ?_, rfl⟩; try simp only [beq_iff_eq, beq_eq_false_iff_ne] at *)
    all_goals (simp only [M.kpt, M.ksn]; (repeat' split) <;> first | omega | simp_all)
  · go_enter Tryz.func224, Tryz.ntmps224
    go_wp2
    all_goals (go_ret; refine ⟨ret_int ?_, rfl⟩; try simp only [beq_iff_eq, beq_eq_false_iff_ne, Bool.and_eq_true, Bool.or_eq_true, decide_eq_true_eq] at *)
    all_goals (simp only [M.kpt, M.ksn]; (repeat' split) <;> first | omega | simp_all)
end Go.Proofs.YtaiinjfnkmidbaaGreatDoor

namespace Go.Proofs.YtaiinjfnkmidbaaGreatDoor
open Go.RowKit
set_option linter.unusedVariables false

/-- An append of integers, at an operation. -/
theorem wp_append_ints {w : World} {o : Oper} {a : Act} {K : Act → World → Prop} {Q : Exit → Act → World → Prop} (s x : Operand)
    (ho : o.op = .call { callee := .builtin .append, args := #[s, x], argTypes := #[31, 31] }) (base : Nat) (v : Value) (xs : List Int) (hs : a.eval s = v)
    (hown : w.ownsRow base 3 1 v xs.length (xs.map (Value.int .i64))) (u : Value) (ys : List Int) (hx : a.eval x = u) (hI : Ints w u ys) (hlen : xs.length + ys.length ≤ 100000) (hbase : base ≤ w.heap.size)
    (h : ∀ ao cap w', w'.ownsRow base 3 1 (.slice ao (xs ++ ys).length cap) (xs ++ ys).length ((xs ++ ys).map (Value.int .i64)) → Below base w w' → K (a.put o.dst (.slice ao (xs ++ ys).length cap)) w') : o.wp Tryz.prog a w K Q := by
  obtain ⟨i0, hi, hz0, hz1, hz2⟩ := info_parts info3
  obtain ⟨ao, cap, rfl, hm, hn, hc⟩ := hI
  cases ao with
  | none =>
    have hy : ys = [] := by
      rcases hc with hc | ⟨b, off, e, _⟩
      · exact hc
      · cases e
    subst hy
    have hcap := hn rfl
    subst hcap
    have hrun := run_append_owned_none (P := Tryz.prog) (w := w) base 31 o.type 3 i0 1 Tryz.underlying31 hi v _ _ hown
    obtain ⟨ao, cap, hsh⟩ := owns_shape hown
    have hK' := h ao cap w (by rw [List.append_nil, ← hsh]; exact hown) (Below.refl _ _)
    rw [List.append_nil, ← hsh] at hK'
    unfold Oper.wp
    simp only [List.length_nil] at hx
    simp [execOp, ho, resolve, invoke, builtin, hs, hx, hrun, Result.andThen]
    exact hK'
  | some ad =>
    refine wp_append_own w s x 31 ho base 3 i0 (.int .i64 0) 1 8 Tryz.underlying31 hi hz0 hz1 hz2 rfl (by decide) v _ _ hs hown ad ys.length cap (ys.map (Value.int .i64)) hx (by simp) ?_ ?_ (by unfold maxLen; omega) (by omega) hbase ?_
    · intro j u hj
      have hjl : j < ys.length := by
        rcases Nat.lt_or_ge j ys.length with h | h
        · exact h
        · simp [List.getElem?_eq_none (show (ys.map (Value.int .i64)).length ≤ j by simpa using h)] at hj
      rcases hc with hc | ⟨b, off, e, hc⟩
      · subst hc; simp at hjl
      · cases e
        have := hc j hjl
        simp [hjl] at hj
        subst hj
        by_cases hj0 : j = 0
        · subst hj0; simpa [Addr.add, hjl] using this
        · simpa [Addr.add, hj0, hjl] using this
    · intro u hu
      simp at hu
      obtain ⟨y, _, rfl⟩ := hu
      rfl
    · intro v' w' h1 h2 _
      have h1' : w'.ownsRow base 3 1 v' (xs ++ ys).length ((xs ++ ys).map (Value.int .i64)) := by simpa using h1
      obtain ⟨ao', cap', hsh⟩ := owns_shape h1'
      subst hsh
      exact h ao' cap' w' h1' ((Below.refl _ _).grown h2 hbase (fun k hk => (hown.lt k hk).1))
/-- The same, at a step of a region that draws its order. -/
theorem step_append_ints {w : World} {ops : Array Oper} {o : Oper} {a : Act} {K : Act → World → Prop} {Q : Exit → Act → World → Prop} {E : Prop} (hgd : o.guard = none) (s x : Operand)
    (ho : o.op = .call { callee := .builtin .append, args := #[s, x], argTypes := #[31, 31] }) (base : Nat) (v : Value) (xs : List Int) (hs : a.eval s = v)
    (hown : w.ownsRow base 3 1 v xs.length (xs.map (Value.int .i64))) (u : Value) (ys : List Int) (hx : a.eval x = u) (hI : Ints w u ys) (hlen : xs.length + ys.length ≤ 100000) (hbase : base ≤ w.heap.size)
    (h : ∀ ao cap w', w'.ownsRow base 3 1 (.slice ao (xs ++ ys).length cap) (xs ++ ys).length ((xs ++ ys).map (Value.int .i64)) → Below base w w' → K (a.put o.dst (.slice ao (xs ++ ys).length cap)) w') :
    if Region.wanted o (yielded ops a.tmps) = true then Oper.wp Tryz.prog o a w K Q else E := by
  have hw : Region.wanted o (yielded ops a.tmps) = true := by simp [Region.wanted, hgd]
  rw [if_pos hw]
  exact wp_append_ints s x ho base v xs hs hown u ys hx hI hlen hbase h
theorem Ints.drewN {w : World} {v : Value} {xs : List Int} (h : Ints w v xs) (n : Nat) : Ints (w.drewN n) v xs := h.below (below_drewN (Below.refl _ _) n)
theorem Ints.drew {w : World} {v : Value} {xs : List Int} (h : Ints w v xs) : Ints w.drew v xs := h.drewN 1

theorem fz_ad {w : World} (o : Obj) {D k : Nat} (hD : D < w.heap.size) (h : w.frozen? ⟨D, k, none⟩ = false) : (w.alloc o).drew.frozen? ⟨D, k, none⟩ = false :=
  ((below_drewN (balloc w o) 1).frozen (p := ⟨D, k, none⟩) hD).trans h
theorem cl_ad {w : World} (o : Obj) {D k : Nat} {x : Value} (hD : D < w.heap.size) (h : w.cell? ⟨D, k, none⟩ = some x) : (w.alloc o).drew.cell? ⟨D, k, none⟩ = some x :=
  ((below_drewN (balloc w o) 1).cell (p := ⟨D, k, none⟩) hD).trans h
theorem owns_set {w : World} {base e size n : Nat} {v : Value} {xs : List Value} (h : w.ownsRow base e size v n xs) (a : Addr) (ha : a.block < base) (u : Value) : (w.setCell a u).ownsRow base e size v n xs := by
  refine ⟨h.1, ?_⟩
  rcases h.2 with hn | ⟨g, cap, cur, rfl, hg, hh, rest⟩
  · exact .inl hn
  · refine .inr ⟨g, cap, cur, rfl, hg, ?_, rest⟩
    rw [Below.heap_setCell _ _ _ _ (by omega)]; exact hh
/-- A teller's cells: its signs, whether an escape stood just ahead, the slice of what it has told. -/
structure Tc (D : Nat) (g : Int) (fr : Bool) (v : Value) (w : World) : Prop where
  c0 : w.cell? ⟨D, 0, none⟩ = some (.int .i64 g)
  c1 : w.cell? ⟨D, 1, none⟩ = some (.bool fr)
  c2 : w.cell? ⟨D, 2, none⟩ = some v
  f0 : w.frozen? ⟨D, 0, none⟩ = false
  f1 : w.frozen? ⟨D, 1, none⟩ = false
  f2 : w.frozen? ⟨D, 2, none⟩ = false
theorem Tc.lt {D : Nat} {g : Int} {fr : Bool} {v : Value} {w : World} (h : Tc D g fr v w) : D < w.heap.size := World.block_lt_of_cell? w _ h.c0
theorem Tc.below {D : Nat} {g : Int} {fr : Bool} {v : Value} {w w2 : World} (h : Tc D g fr v w) (hb : Below (D + 1) w w2) : Tc D g fr v w2 where
  c0 := (hb.cell (p := ⟨D, 0, none⟩) (Nat.lt_succ_self _)).trans h.c0
  c1 := (hb.cell (p := ⟨D, 1, none⟩) (Nat.lt_succ_self _)).trans h.c1
  c2 := (hb.cell (p := ⟨D, 2, none⟩) (Nat.lt_succ_self _)).trans h.c2
  f0 := (hb.frozen (p := ⟨D, 0, none⟩) (Nat.lt_succ_self _)).trans h.f0
  f1 := (hb.frozen (p := ⟨D, 1, none⟩) (Nat.lt_succ_self _)).trans h.f1
  f2 := (hb.frozen (p := ⟨D, 2, none⟩) (Nat.lt_succ_self _)).trans h.f2
theorem Tc.set0 {D : Nat} {g : Int} {fr : Bool} {v : Value} {w : World} (h : Tc D g fr v w) (x : Int) : Tc D x fr v (w.setCell ⟨D, 0, none⟩ (.int .i64 x)) where
  c0 := World.cell?_setCell_same _ _ _ h.c0
  c1 := (World.cell?_setCell_other _ _ _ _ (by simp)).trans h.c1
  c2 := (World.cell?_setCell_other _ _ _ _ (by simp)).trans h.c2
  f0 := by rw [World.frozen?_setCell]; exact h.f0
  f1 := by rw [World.frozen?_setCell]; exact h.f1
  f2 := by rw [World.frozen?_setCell]; exact h.f2
theorem Tc.set1 {D : Nat} {g : Int} {fr : Bool} {v : Value} {w : World} (h : Tc D g fr v w) (x : Bool) : Tc D g x v (w.setCell ⟨D, 1, none⟩ (.bool x)) where
  c0 := (World.cell?_setCell_other _ _ _ _ (by simp)).trans h.c0
  c1 := World.cell?_setCell_same _ _ _ h.c1
  c2 := (World.cell?_setCell_other _ _ _ _ (by simp)).trans h.c2
  f0 := by rw [World.frozen?_setCell]; exact h.f0
  f1 := by rw [World.frozen?_setCell]; exact h.f1
  f2 := by rw [World.frozen?_setCell]; exact h.f2
theorem Tc.set2 {D : Nat} {g : Int} {fr : Bool} {v : Value} {w : World} (h : Tc D g fr v w) (x : Value) : Tc D g fr x (w.setCell ⟨D, 2, none⟩ x) where
  c0 := (World.cell?_setCell_other _ _ _ _ (by simp)).trans h.c0
  c1 := (World.cell?_setCell_other _ _ _ _ (by simp)).trans h.c1
  c2 := World.cell?_setCell_same _ _ _ h.c2
  f0 := by rw [World.frozen?_setCell]; exact h.f0
  f1 := by rw [World.frozen?_setCell]; exact h.f1
  f2 := by rw [World.frozen?_setCell]; exact h.f2
/-- A teller in memory: its cells, and the row of what it has told, all of it behind its own block. -/
def Tl (D : Nat) (g : Int) (fr : Bool) (xs : List Int) (v : Value) (w : World) : Prop := Tc D g fr v w ∧ w.ownsRow (D + 1) 3 1 v xs.length (xs.map (Value.int .i64))
theorem bset {B : Nat} {a w : World} (h : Below B a w) (p : Addr) (u : Value) (hp : B ≤ p.block) : Below B a (w.setCell p u) := h.setCell hp u

set_option maxHeartbeats 800000 in
set_option maxRecDepth 100000 in
theorem next_sign (D : Nat) (g : Int) (fr : Bool) (xs : List Int) (v : Value) (s : ByteArray) (w : World) (hg : M.Sg g) (h0 : 0 < s.size) (hs : s.size ≤ 3003) (hx : xs.length ≤ 50000) (hT : Tl D g fr xs v w) (he : M.kesc (bl s) = none) :
    Calls Tryz.prog 202 #[.pointer (some ⟨D, 0, none⟩), .string s] w fun e w' => ∃ v', e = .returned (.int .i64 1) ∧ Tl D g false (xs ++ [M.kpt g (s[0].toNat : Int)]) v' w' ∧ Below D w w' := by
  have hr : ∀ w : World, Calls Tryz.prog 223 #[.string s] w fun e w' => (∃ q, e = .returned (.tuple #[.int .i64 q, .bool false])) ∧ w' = w := fun w =>
    (readEscape_any s w (by unfold maxLen; omega)).mono fun e w' h => by
      obtain ⟨⟨q, h1, _⟩, h2⟩ := h
      rw [he] at h1
      exact ⟨⟨q, h1⟩, h2⟩
  have hc := s[0].toNat_lt
  obtain ⟨p, HP⟩ : ∃ p, Hid (M.kpt g (s[0].toNat : Int) = p) := ⟨_, hide rfl⟩
  have hpo : ∀ w : World, Calls Tryz.prog 224 #[.int .i64 g, .int .u8 (s[0].toNat : Int)] w fun e w' => e = .returned (.int .i64 p) ∧ w' = w := fun w => by
    have := pointOf_any g (s[0].toNat : Int) hg (by omega) (by omega) w
    rwa [unhide HP] at this
  obtain ⟨hT, ho⟩ := hT
  have HT := hide hT
  obtain ⟨c0, c1, c2, f0, f1, f2⟩ := hT
  have hD := World.block_lt_of_cell? w _ c0
  have hDs : D < w.heap.size := hD
  obtain ⟨ao, cap, hsh⟩ := owns_shape ho
  subst hsh
  have HO := hide ho
  clear he hc
  rw [unhide HP]
  go_enter Tryz.func202, Tryz.ntmps202
  go_wp2_with fail
  refine (hr _).mono ?_
  rintro e w1 ⟨⟨q, rfl⟩, hw⟩
  replace hw := hw.symm
  subst hw
  clear hr ho
  go_wp2_with fail
  go_region_law ((first
      | (refine step_append_ints (by rfl) _ _ (by rfl) (D + 1) _ xs (by rfl) (((unhide HO).alloc _).drew) _ [p] (by rfl) ((one_int _ _).drew) (by simp; omega) (by simp; omega) ?_; intro ao2 cap2 w2 ho2 hb2; have hf2 : w2.frozen? ⟨D, 2, none⟩ = false := (hb2.frozen (p := ⟨D, 2, none⟩) (Nat.lt_succ_self _)).trans (fz_ad _ hDs f2); have hc2 : w2.cell? ⟨D, 2, none⟩ = some (.slice ao xs.length cap) := (hb2.cell (p := ⟨D, 2, none⟩) (Nat.lt_succ_self _)).trans (cl_ad _ hDs c2))
      | (go_simp; go_at_call 224; refine (hpo _).mono ?_; rintro e w1 ⟨rfl, hw⟩; replace hw := hw.symm; subst hw)))
  all_goals
    have HO2 := hide ho2
    have HT2 := hide ((unhide HT).below ((below_drewN ((Below.refl _ _).alloc (show D + 1 ≤ w.heap.size from hDs) _) 1).trans hb2))
    have HB2 := hide ((below_drewN ((Below.refl D w).alloc (Nat.le_of_lt hDs) _) 1).trans (hb2.mono (Nat.le_succ D)))
    have hc1 := (unhide HT2).c1
    have hf1 := (unhide HT2).f1
    clear ho2 hb2
    go_wp2_with fail
    go_ret
    exact ⟨_, rfl, ⟨((unhide HT2).set2 _).set1 false, by simpa using owns_set (owns_set (unhide HO2) ⟨D, 2, none⟩ (Nat.lt_succ_self _) _) ⟨D, 1, none⟩ (Nat.lt_succ_self _) _⟩, bset (bset (unhide HB2) ⟨D, 2, none⟩ _ (Nat.le_refl _)) ⟨D, 1, none⟩ _ (Nat.le_refl _)⟩
end Go.Proofs.YtaiinjfnkmidbaaGreatDoor
