/- The contracts of label.fold and label.Fold: letters are small; nothing that was there is written. Condition: at most 3000 bytes, else ErrMany. -/
import Derived.Test.YtofbghdkmjhniaaDoorRH
namespace Go.Proofs.YtofbghdkmjhniaaDoor
open Go.RowKit
set_option linter.unusedVariables false

/-- The bytes of a text, the first k of them folded. -/
def fkd (s : ByteArray) (k j : Nat) : Int := if j < k then fI ((bl s).getD j 0) else (bl s).getD j 0
/-- What a round of fold knows. -/
def InFd (s : ByteArray) (B : Nat) (w wr : World) (k : Nat) : Prop :=
  B < wr.heap.size ∧ Below B w wr ∧ (∀ j, j < s.size → wr.cell? ⟨B, j, none⟩ = some (.int .u8 (fkd s k j))) ∧ ∀ j, j < s.size → wr.frozen? ⟨B, j, none⟩ = false

theorem bytesRow_fd (s : ByteArray) (cap j : Nat) (h : j < s.size) : (bytesRow s cap)[j]? = some (.int .u8 ((bl s).getD j 0)) := by
  have hb := bl_get s j h
  rw [List.getD_eq_getElem?_getD, hb]
  unfold bytesRow
  rw [Array.getElem?_append_left (by simp; exact h)]
  simp [h]
  rfl

theorem InFd.start (s : ByteArray) (w : World) (cap : Nat) :
    InFd s w.heap.size w (w.drew.alloc (.cells (bytesRow s cap) 5 ((bytesRow s cap).size, (bytesRow s cap).size + 1))) 0 := by
  have hsz : s.size ≤ (bytesRow s cap).size := by unfold bytesRow; simp
  refine ⟨by simp, ((Below.refl _ _).drew).alloc (Nat.le_refl _) _, fun j hj => ?_, fun j hj => ?_⟩
  · have := World.cell?_alloc_mark w.drew (bytesRow s cap) 5 ((bytesRow s cap).size, (bytesRow s cap).size + 1) j
    rw [show (⟨w.heap.size, j, none⟩ : Addr) = ⟨w.drew.heap.size, j, none⟩ from rfl, this, bytesRow_fd s cap j hj]
    simp [fkd]
  · have hh : (w.drew.alloc (.cells (bytesRow s cap) 5 ((bytesRow s cap).size, (bytesRow s cap).size + 1))).heap[w.heap.size]? = some (.cells (bytesRow s cap) 5 ((bytesRow s cap).size, (bytesRow s cap).size + 1)) := heap_alloc_new w.drew _
    simp only [World.frozen?, hh]
    simp
    omega

theorem InFd.set {s : ByteArray} {B : Nat} {w wr : World} {k : Nat} (h : InFd s B w wr k) (hk : k < s.size) : InFd s B w (wr.setCell ⟨B, k, none⟩ (.int .u8 (fI ((bl s).getD k 0)))) (k + 1) := by
  obtain ⟨h1, h2, h3, h4⟩ := h
  refine ⟨by simpa [World.setCell] using h1, h2.setCell (Nat.le_refl _) _, fun j hj => ?_, fun j hj => by rw [World.frozen?_setCell]; exact h4 j hj⟩
  by_cases e : j = k
  · subst e
    rw [World.cell?_setCell_same _ _ _ (h3 j hj)]
    simp [fkd]
  · rw [World.cell?_setCell_other _ _ _ _ (by intro e'; exact e (by simpa using congrArg Addr.off e'.symm)), h3 j hj]
    unfold fkd
    by_cases g : j < k
    · rw [if_pos g, if_pos (by omega)]
    · rw [if_neg g, if_neg (by omega)]
theorem InFd.keep {s : ByteArray} {B : Nat} {w wr : World} {k : Nat} (h : InFd s B w wr k) (hk : k < s.size) (hf : fI ((bl s).getD k 0) = (bl s).getD k 0) : InFd s B w wr (k + 1) := by
  obtain ⟨h1, h2, h3, h4⟩ := h
  refine ⟨h1, h2, fun j hj => ?_, h4⟩
  rw [h3 j hj]
  unfold fkd
  by_cases e : j = k
  · subst e; rw [if_neg (Nat.lt_irrefl _), if_pos (by omega), hf]
  · by_cases g : j < k
    · rw [if_pos g, if_pos (by omega)]
    · rw [if_neg g, if_neg (by omega)]

theorem conv_folded {s : ByteArray} {B cap : Nat} {w wr : World} (h : InFd s B w wr s.size) : (convert 50 9 (.slice (some ⟨B, 0, none⟩) s.size cap)).run Tryd.prog wr = .ok (.string (strOfNums (fdI (bl s)))) wr := by
  refine run_convert_bytes_arg wr 50 5 Tryd.underlying50 Tryd.underlying5 B 0 s.size cap (fdI (bl s)) (by rw [fd_len, bl_len]) (fun i hi => ?_) 9 Tryd.underlying9
  rw [Nat.zero_add, h.2.2.1 i hi]
  have hi' : i < (bl s).length := by rw [bl_len]; exact hi
  simp [fkd, hi, fdI, hi']

set_option maxHeartbeats 400000 in
set_option maxRecDepth 100000 in
theorem fold_any (s : ByteArray) (w : World) (hs : s.size ≤ 3000) :
    Calls Tryd.prog 18 #[.string s] w fun e w' => e = .returned (.string (strOfNums (fdI (bl s)))) ∧ Below w.heap.size w w' := by
  have hcv := run_bytes_of_string (P := Tryd.prog) w 9 50 5 s Tryd.underlying9 Tryd.underlying50 Tryd.underlying5
  have HS := fun cap => InFd.start s w cap
  generalize grownCap w s.size 0 5 = cap at hcv
  have HS' := hide (HS cap)
  clear HS
  generalize hrow : bytesRow s cap = row at hcv HS'
  clear hrow
  go_enter Tryd.func18, Tryd.ntmps18
  go_wp2_with fail
  clear hcv
  go_loopw [10] (fun i wr => ∃ k : Nat, k ≤ s.size ∧ i = .int .i64 k ∧ InFd s w.heap.size w wr k) (fun i _ => s.size - (intOf i).toNat)
  case atStart => exact ⟨0, by omega, rfl, unhide HS'⟩
  case round =>
    obtain ⟨k, hk, rfl, hI⟩ := hrel
    clear HS'
    by_cases hlt : k < s.size
    · have hc := hI.2.2.1 k hlt
      have hf := hI.2.2.2 k hlt
      have e : fkd s k k = (bl s).getD k 0 := by simp [fkd]
      rw [e] at hc
      clear e
      have hbt : 0 ≤ (bl s).getD k 0 ∧ (bl s).getD k 0 ≤ 255 := bl_byt s _ (by simp [bl_len, hlt])
      have HK := hide (fun h => hI.keep hlt h)
      have HT := hide (hI.set hlt)
      clear hI
      obtain ⟨c, HC⟩ : ∃ c, Hid ((bl s).getD k 0 = c) := ⟨_, rfl⟩
      rw [unhide HC] at hc hbt HK HT
      by_cases h1 : 65 ≤ c ∧ c ≤ 90
      · have e : fI c = c + 32 := by unfold fI; rw [if_pos h1]
        rw [e] at HT
        clear e
        obtain ⟨h10, h11⟩ := h1
        go_wp2_with fail
        go_roundw
        case rel => exact ⟨k + 1, by omega, by go_num, by first | exact unhide HT | (have := unhide HT; rw [show c + 32 = c - 65 + 97 from by omega] at this; exact this)⟩
        case measure => simp [intOf]; omega
      · have e : fI c = c := by unfold fI; rw [if_neg h1]
        have HK' := hide (unhide HK e)
        clear e HK HT
        rcases (show c < 65 ∨ (65 ≤ c ∧ 90 < c) from by omega) with g | ⟨g, g'⟩
        all_goals
          go_wp2_with fail
          go_roundw
          case rel => exact ⟨k + 1, by omega, by go_num, unhide HK'⟩
          case measure => simp [intOf]; omega
    · have ek : k = s.size := by omega
      subst ek
      have hcv := conv_folded (cap := cap) hI
      have HB := hide hI.2.1
      clear hI
      go_wp2_with fail
      go_ret
      exact ⟨rfl, unhide HB⟩
end Go.Proofs.YtofbghdkmjhniaaDoor
