/- The contracts of the reference's beginsAt and SameAttrs; nothing that was there is written. Condition: at most 3000 bytes, the place within them. -/
import Derived.Test.YthhjfedegbldfaeDoorRB
import Derived.Lib.Strings
namespace Go.Proofs.YthhjfedegbldfaeDoor
open Go.RowKit
set_option linter.unusedVariables false

/-- Does a text of small letters stand at a place? -/
def bgn (l : List Int) (k : Nat) (m : List Int) : Bool := decide (k + m.length ≤ l.length ∧ fdI (cut l k (k + m.length)) = m)
theorem bgn_no {l : List Int} {k : Nat} {m : List Int} (h : l.length < k + m.length) : bgn l k m = false := by unfold bgn; exact decide_eq_false (by omega)
theorem bgn_at {s m : ByteArray} {k : Nat} (h : k + m.size ≤ s.size) : decide (strOfNums (fdI (cut (bl s) k (k + m.size))) = m) = bgn (bl s) k (bl m) := by
  unfold bgn
  rw [Bool.eq_iff_iff, decide_eq_true_eq, decide_eq_true_eq, bl_len, bl_len]
  have hb : ∀ x ∈ fdI (cut (bl s) k (k + m.size)), 0 ≤ x ∧ x ≤ 255 := by
    have := fd_byt (l := cut (bl s) k (k + m.size)) (by
      intro x hx
      unfold cut at hx
      exact bl_byt s x (List.mem_of_mem_drop (List.mem_of_mem_take hx)))
    exact this
  constructor
  · intro e
    refine ⟨h, ?_⟩
    rw [← bl_str _ hb, e]
  · rintro ⟨_, e⟩
    rw [e, str_bl]
theorem text_eq (f m : ByteArray) : (f.toList == m.toList) = decide (f = m) := by
  rw [Bool.eq_iff_iff, beq_iff_eq, decide_eq_true_eq]
  constructor
  · intro h
    apply ByteArray.ext
    apply Array.ext'
    rw [← Lib.toList_data, ← Lib.toList_data, h]
  · intro h; rw [h]
set_option maxHeartbeats 800000 in
set_option maxRecDepth 100000 in
theorem beginsAt_any (s : ByteArray) (k : Nat) (m : ByteArray) (w : World) (hk : k ≤ s.size) (hs : s.size ≤ 3000) (hm : m.size ≤ 10) :
    Calls Tryd.prog 29 #[.string s, .int .i64 (k : Int), .string m] w fun e w' => e = .returned (.bool (bgn (bl s) k (bl m))) ∧ Below w.heap.size w w' := by
  by_cases h : k + m.size ≤ s.size
  · rw [← bgn_at h]
    have HF := hide (fun w => foldOf_any (s.extract k (k + m.size)) w (by rw [← bl_len, bl_cut, cut_len (by rw [bl_len]; exact h)]; omega))
    rw [bl_cut] at HF
    have hsl : ∀ wx, (Instr.slice 9 (.string s) (some (.int .i64 (k : Int))) (some (.int .i64 ((k : Int) + (m.size : Int)))) none).run Tryd.prog wx = .ok (.string (s.extract k (k + m.size))) wx := fun wx => by
      have := run_slice_string (P := Tryd.prog) wx 9 s .i64 .i64 (k : Int) ((k : Int) + (m.size : Int)) Tryd.underlying9 (by omega) (by omega) (by omega)
      rw [this]
      simp
      congr 2
    generalize strOfNums (fdI (cut (bl s) k (k + m.size))) = f at *
    go_enter Tryd.func29, Tryd.ntmps29
    go_wp2_with fail
    refine (unhide HF _).mono ?_
    rintro e w1 ⟨rfl, hb⟩
    have HB := hide hb
    clear hb
    go_wp2_with fail
    go_ret
    refine ⟨?_, unhide HB⟩
    rw [← text_eq f m]
    rfl
  · rw [bgn_no (by rw [bl_len, bl_len]; omega)]
    go_enter Tryd.func29, Tryd.ntmps29
    go_wp2_with fail
    go_ret
    exact ⟨rfl, Below.refl _ _⟩

/-- A slice of attributes. -/
def Ats (w : World) (v : Value) (L : List (ByteArray × ByteArray)) : Prop :=
  ∃ ao cap, v = .slice ao L.length cap ∧ L.length ≤ maxLen ∧ (L = [] ∨ ∃ b off, ao = some ⟨b, off, none⟩ ∧ ∀ i (h : i < L.length), w.cell? ⟨b, off + i * 2, none⟩ = some (.string L[i].1) ∧ w.cell? ⟨b, off + i * 2 + 1, none⟩ = some (.string L[i].2))
theorem Ats.below {w w' : World} {v : Value} {L : List (ByteArray × ByteArray)} (h : Ats w v L) (hb : Below w.heap.size w w') : Ats w' v L := by
  obtain ⟨ao, cap, h1, h2, h3⟩ := h
  refine ⟨ao, cap, h1, h2, ?_⟩
  rcases h3 with h3 | ⟨b, off, h4, h5⟩
  · exact .inl h3
  · refine .inr ⟨b, off, h4, fun i hi => ⟨?_, ?_⟩⟩
    · exact (hb.cell (p := ⟨b, off + i * 2, none⟩) (World.block_lt_of_cell? w _ (h5 i hi).1)).trans (h5 i hi).1
    · exact (hb.cell (p := ⟨b, off + i * 2 + 1, none⟩) (World.block_lt_of_cell? w _ (h5 i hi).2)).trans (h5 i hi).2
/-- Attributes as texts. -/
def txts (L : List (List Int × List Int)) : List (ByteArray × ByteArray) := L.map fun x => (strOfNums x.1, strOfNums x.2)
theorem atCells_at (L : List (List Int × List Int)) : ∀ i (h : i < (txts L).length), (atCells L)[i * 2]? = some (.string (txts L)[i].1) ∧ (atCells L)[i * 2 + 1]? = some (.string (txts L)[i].2) := by
  induction L with
  | nil => intro i h; simp [txts] at h
  | cons x t ih =>
    intro i h
    cases i with
    | zero => simp [atCells, txts]
    | succ i =>
      have := ih i (by simpa [txts] using h)
      have e1 : (i + 1) * 2 = i * 2 + 2 := by omega
      rw [e1]
      simpa [atCells, txts, List.flatMap_cons] using this
theorem Ats.of_owns {w : World} {base : Nat} {v : Value} {L : List (List Int × List Int)} (h : w.ownsRow base 23 2 v L.length (atCells L)) : Ats w v (txts L) := by
  have hl : (txts L).length = L.length := by simp [txts]
  rcases h.2 with ⟨hv, hn⟩ | ⟨g, cap, cur, hv, _, hg, hnc, hcm, hcs, htk⟩
  · have : L = [] := List.length_eq_zero_iff.1 hn
    subst this
    exact ⟨none, 0, by rw [hv]; rfl, by simp [txts], .inl rfl⟩
  · refine ⟨some ⟨g, 0, none⟩, cap, by rw [hv, hl], by rw [hl]; omega, .inr ⟨g, 0, rfl, fun i hi => ?_⟩⟩
    have hc := atCells_at L i hi
    rw [← htk] at hc
    have hi' : i < L.length := by rw [← hl]; exact hi
    rw [List.getElem?_take, if_pos (by omega), List.getElem?_take, if_pos (by omega)] at hc
    simp only [World.cell?, hg, Nat.zero_add]
    simpa using hc

set_option maxHeartbeats 1600000 in
set_option maxRecDepth 100000 in
theorem sameAttrs_any {v u : Value} {K L : List (ByteArray × ByteArray)} (w : World) (hv : Ats w v K) (hu : Ats w u L) :
    Calls Tryd.prog 16 #[v, u] w fun e w' => e = .returned (.bool (decide (K = L))) ∧ Below w.heap.size w w' := by
  obtain ⟨ao, cap, rfl, hm, hc⟩ := hv
  obtain ⟨bo, cap', rfl, hm', hc'⟩ := hu
  unfold maxLen at hm hm'
  have HC := hide hc
  have HC' := hide hc'
  clear hc hc'
  by_cases hl : K.length = L.length
  · have HLn := hide hl
    have hne : ((K.length : Int) != (L.length : Int)) = false := by simp [hl]
    clear hl
    go_enter Tryd.func16, Tryd.ntmps16
    go_wp2_with fail
    go_loopw [5] (fun i wr => ∃ k : Nat, k ≤ K.length ∧ i = .int .i64 k ∧ Below w.heap.size w wr ∧ Hid (K.take k = L.take k)) (fun i _ => K.length - (intOf i).toNat)
    case atStart => exact ⟨0, by omega, rfl, Below.refl _ _, hide (by simp)⟩
    case round =>
      obtain ⟨k, hk, rfl, hB, HT⟩ := hrel
      have HB := hide hB
      clear hB
      by_cases hltK : k < K.length
      · have hlt : k < L.length := by have := unhide HLn; omega
        obtain ⟨b, off, rfl, hcc⟩ : ∃ b off, ao = some ⟨b, off, none⟩ ∧ ∀ i (h : i < K.length), w.cell? ⟨b, off + i * 2, none⟩ = some (.string K[i].1) ∧ w.cell? ⟨b, off + i * 2 + 1, none⟩ = some (.string K[i].2) := by
          rcases unhide HC with h | h
          · subst h; simp at hltK
          · exact h
        obtain ⟨b', off', rfl, hcc'⟩ : ∃ b off, bo = some ⟨b, off, none⟩ ∧ ∀ i (h : i < L.length), w.cell? ⟨b, off + i * 2, none⟩ = some (.string L[i].1) ∧ w.cell? ⟨b, off + i * 2 + 1, none⟩ = some (.string L[i].2) := by
          rcases unhide HC' with h | h
          · subst h; simp at hlt
          · exact h
        have c1 := ((unhide HB).cell (p := ⟨b, off + k * 2, none⟩) (World.block_lt_of_cell? w _ (hcc k hltK).1)).trans (hcc k hltK).1
        have c2 := ((unhide HB).cell (p := ⟨b, off + k * 2 + 1, none⟩) (World.block_lt_of_cell? w _ (hcc k hltK).2)).trans (hcc k hltK).2
        have d1 := ((unhide HB).cell (p := ⟨b', off' + k * 2, none⟩) (World.block_lt_of_cell? w _ (hcc' k hlt).1)).trans (hcc' k hlt).1
        have d2 := ((unhide HB).cell (p := ⟨b', off' + k * 2 + 1, none⟩) (World.block_lt_of_cell? w _ (hcc' k hlt).2)).trans (hcc' k hlt).2
        have hb1 : b < wr.heap.size := World.block_lt_of_cell? wr _ c1
        have hb2 : b' < wr.heap.size := World.block_lt_of_cell? wr _ d1
        have HE1 : Hid (K.take (k + 1) = K.take k ++ [K[k]]) := hide (List.take_succ_eq_append_getElem hltK)
        have HE2 : Hid (L.take (k + 1) = L.take k ++ [L[k]]) := hide (List.take_succ_eq_append_getElem hlt)
        have HKe : Hid (K = L → K[k] = L[k]) := hide (fun e => by subst e; rfl)
        obtain ⟨x1, x2, hx⟩ : ∃ x1 x2, K[k] = (x1, x2) := ⟨_, _, rfl⟩
        obtain ⟨y1, y2, hy⟩ : ∃ x1 x2, L[k] = (x1, x2) := ⟨_, _, rfl⟩
        rw [hx] at c1 c2 HE1 HKe
        rw [hy] at d1 d2 HE2 HKe
        simp only at c1 c2 d1 d2
        clear hx hy hcc hcc'
        have ne_l : ∀ {a b : ByteArray}, a ≠ b → ¬ (a.toList = b.toList) := fun {a b} h e => h (by
          apply ByteArray.ext; apply Array.ext'; rw [← Lib.toList_data, ← Lib.toList_data, e])
        by_cases e1 : x1 = y1
        · subst e1
          by_cases e2 : x2 = y2
          · subst e2
            have HT' : Hid (K.take (k + 1) = L.take (k + 1)) := hide (by rw [unhide HE1, unhide HE2, unhide HT])
            clear ne_l
            go_wp2_with fail
            go_region
            all_goals
              go_wp2_with fail
              go_roundw
              case rel => exact ⟨k + 1, by omega, by go_num, below_drewN (unhide HB) 1, HT'⟩
              case measure => simp [intOf]; omega
          · have hn := ne_l e2
            have HD : Hid (decide (K = L) = false) := hide (decide_eq_false (fun e => e2 (congrArg Prod.snd (unhide HKe e))))
            clear ne_l e2
            go_wp2_with fail
            go_region
            all_goals
              go_wp2_with fail
              go_ret
              exact ⟨by rw [unhide HD]; rfl, below_drewN (unhide HB) 1⟩
        · have hn := ne_l e1
          have HD : Hid (decide (K = L) = false) := hide (decide_eq_false (fun e => e1 (congrArg Prod.fst (unhide HKe e))))
          clear ne_l e1
          go_wp2_with fail
          go_region
          all_goals
            go_wp2_with fail
            go_ret
            exact ⟨by rw [unhide HD]; rfl, below_drewN (unhide HB) 1⟩
      · have HD : Hid (decide (K = L) = true) := hide (decide_eq_true (by
          have := unhide HT
          have hh := unhide HLn
          rwa [List.take_of_length_le (by omega), List.take_of_length_le (by omega)] at this))
        go_wp2_with fail
        go_ret
        exact ⟨by rw [unhide HD]; rfl, unhide HB⟩
  · have hne : ((K.length : Int) != (L.length : Int)) = true := by simp; omega
    have HD : Hid (decide (K = L) = false) := hide (decide_eq_false (fun e => hl (by rw [e])))
    go_enter Tryd.func16, Tryd.ntmps16
    go_wp2_with fail
    go_ret
    exact ⟨by rw [unhide HD]; rfl, Below.refl _ _⟩
end Go.Proofs.YthhjfedegbldfaeDoor
