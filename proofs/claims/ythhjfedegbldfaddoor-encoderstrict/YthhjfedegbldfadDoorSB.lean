/- The contracts of single.bytesOf and single.Tells: a map of all bytes by their code points; which byte tells a code point, if one does. Nothing that was there is written. -/
import Derived.Test.YthhjfedegbldfadDoorSA
import Derived.Maps.Own
import Derived.Maps.OwnOps
import Derived.Maps.OwnSet
import Derived.Maps.Views
namespace Go.Proofs.YthhjfedegbldfadDoor
open Go.RowKit Go.Maps
set_option linter.unusedVariables false

theorem law3 : Keyed Tryd.prog 3 := int_keyed Tryd.underlying3
theorem zero5 (w : World) : (zeroValue 5).run Tryd.prog w = .ok (.int .u8 0) w := by kernel_rfl

/-- The map of the first k bytes' code points. -/
def Dk (user : Bool) : Nat → DataW Unit
  | 0 => .map []
  | k + 1 => (Dk user k).put (.int .i64 (M.pt user k)) (.lit (.int .u8 k))

theorem Dk_map (user : Bool) : ∀ k, IsMap (Dk user k)
  | 0 => isMap_empty
  | k + 1 => (Dk_map user k).put _ _
theorem lit_ne {a b : Int} (h : a ≠ b) : (Lit.int .i64 a) ≠ .int .i64 b := fun e => h (by injection e)

theorem Dk_has (user : Bool) (n : Int) : ∀ k, Maps.has (Dk user k) (.int .i64 n) = (List.range k).any (fun c => M.pt user (c : Nat) == n)
  | 0 => by simp [Dk, Maps.has]
  | k + 1 => by
    rw [List.range_succ, List.any_append, ← Dk_has user n k]
    by_cases h : M.pt user k = n
    · subst h
      rw [Dk, has_put_same (Dk_map user k) (by trivial)]
      simp
    · rw [Dk, has_put_other (lit_ne (fun e => h e.symm))]
      simp [h]

theorem Dk_at (user : Bool) {j : Nat} : ∀ k, j < k → k ≤ 256 → (Dk user k).atKey (.int .i64 (M.pt user j)) (.lit (.int .u8 0)) = .lit (.int .u8 j)
  | 0, h, _ => by omega
  | k + 1, h, hk => by
    by_cases e : j = k
    · subst e
      rw [Dk, atKey_put_same (Dk_map user j) (by trivial)]
    · rw [Dk, atKey_put_other (lit_ne (fun e' => e (M.pt_inj user (by omega) (by omega) e')))]
      exact Dk_at user k (by omega) (by omega)

theorem D_has (user : Bool) (n : Int) : Maps.has (Dk user 256) (.int .i64 n) = M.hasB user n := Dk_has user n 256
theorem D_at (user : Bool) {n : Int} (h : M.hasB user n = true) : (Dk user 256).atKey (.int .i64 n) (.lit (.int .u8 0)) = .lit (.int .u8 (M.bof user n)) := by
  obtain ⟨k, hk, e, hp⟩ := M.bof_spec user h
  rw [e, ← hp]
  exact Dk_at user 256 hk (by omega)

/-- Block b is the map of all bytes. -/
def IsB (user : Bool) (w : World) (b : Nat) : Prop := w.ownsMap Tryd.prog 3 (plainElem (H := Unit) Tryd.prog 5) b 256 (Dk user 256)
theorem IsB.below {user : Bool} {w w' : World} {b B : Nat} (h : IsB user w b) (hb : Below B w w') (hB : b < B) : IsB user w' b := by
  obtain ⟨es, clock, h1, h2⟩ := h
  exact ⟨es, clock, (hb.block b hB).trans h1, h2⟩
theorem IsB.lt {user : Bool} {w : World} {b : Nat} (h : IsB user w b) : b < w.heap.size := by
  obtain ⟨es, clock, h1, _⟩ := h
  exact lt_of_block h1

set_option maxHeartbeats 400000 in
set_option maxRecDepth 100000 in
theorem bytesOf_any (user : Bool) (w : World) : Calls Tryd.prog 92 #[.bool user] w fun e w' => e = .returned (.map (some w.heap.size)) ∧ IsB user w' w.heap.size ∧ Below w.heap.size w w' := by
  have hmm : ∀ w : World, (Instr.makeMap 106 (some (.int .i64 256))).run Tryd.prog w = .ok (.map (some w.heap.size)) (w.alloc (.map #[] 0)) := fun w => rfl
  go_enter Tryd.func92, Tryd.ntmps92
  go_wp2_with fail
  refine (pointsOf_any user _).mono ?_
  rintro e w1 ⟨v1, rfl, hI1, hb1⟩
  obtain ⟨ao1, cap1, hsh1, -, -, hc1⟩ := hI1
  subst hsh1
  rw [M.tblOf_len]
  rw [M.tblOf_len] at hc1
  obtain ⟨b, off, rfl, hcc⟩ : ∃ b off, ao1 = some ⟨b, off, none⟩ ∧ ∀ i, i < 256 → w1.cell? ⟨b, off + i, none⟩ = some (.int .i64 ((M.tblOf user 256).getD i 0)) := by
    rcases hc1 with h | h
    · have := congrArg List.length h; rw [M.tblOf_len] at this; simp at this
    · exact h
  have hmap : w1.heap[w.heap.size]? = some (.map #[] 0) := (hb1.block _ (by simp)).trans (heap_alloc_new _ _)
  have hne : b ≠ w.heap.size := by
    intro e
    have := hcc 0 (by omega)
    rw [e] at this
    simp [World.cell?, hmap] at this
  have hown0 : w1.ownsMap Tryd.prog 3 (plainElem (H := Unit) Tryd.prog 5) w.heap.size 0 (Dk user 0) := by
    obtain ⟨es, clock, h1, h2⟩ := World.ownsMap_made (H := Unit) w Tryd.prog 3 (plainElem (H := Unit) Tryd.prog 5)
    exact ⟨es, clock, (hb1.block _ (by simp)).trans h1, h2⟩
  have hbl : b < w1.heap.size := World.block_lt_of_cell? w1 _ (hcc 0 (by omega))
  have HI : Hid (w1.ownsMap Tryd.prog 3 (plainElem (H := Unit) Tryd.prog 5) w.heap.size 0 (Dk user 0) ∧ (∀ i, i < 256 → w1.cell? ⟨b, off + i, none⟩ = some (.int .i64 ((M.tblOf user 256).getD i 0))) ∧ Below w.heap.size w w1) := hide ⟨hown0, hcc, bstep (balloc _ _) hb1⟩
  clear hc1 hcc hown0 hmap hb1
  go_wp2_with fail
  go_loopw [10] (fun i wr => ∃ k : Nat, k ≤ 256 ∧ i = .int .i64 k ∧ Hid (wr.ownsMap Tryd.prog 3 (plainElem (H := Unit) Tryd.prog 5) w.heap.size k (Dk user k) ∧ (∀ i, i < 256 → wr.cell? ⟨b, off + i, none⟩ = some (.int .i64 ((M.tblOf user 256).getD i 0))) ∧ Below w.heap.size w wr)) (fun i _ => 256 - (intOf i).toNat)
  case atStart => exact ⟨0, by omega, rfl, HI⟩
  case round =>
    obtain ⟨k, hk, rfl, HJ⟩ := hrel
    clear HI
    obtain ⟨hown, hcl, hbw⟩ := unhide HJ
    by_cases hlt : k < 256
    · have hcell := hcl k hlt
      rw [M.tblOf_get user hlt] at hcell
      have hpb := M.pt_bd user hlt
      have HS : Hid (Dk user (k + 1) = (Dk user k).put (.int .i64 (M.pt user k)) (.lit (.int .u8 k))) := hide rfl
      have hkey : keyOf Tryd.prog 3 (.int .i64 (M.pt user k)) = some (.int .i64 (M.pt user k)) := keyOf_int_mk Tryd.underlying3 (WalkArith.wf_i64 (by omega))
      have hwf : (Lit.int .u8 (k : Int)).wf = true := WalkArith.wf_u8 (by omega)
      obtain ⟨p, HP⟩ : ∃ p, Hid (M.pt user (k : Int) = p) := ⟨_, rfl⟩
      rw [unhide HP] at hcell hpb hkey HS
      have hbr : b < wr.heap.size := World.block_lt_of_cell? wr _ hcell
      have HCL := hide hcl
      have HBW := hide hbw
      clear hcl hbw
      go_wp2_with (at_mapUpdate; refine wpList_mapUpdate_own _ rfl _ _ _ 106 rfl 3 5 law3 Tryd.underlying106 _ w.heap.size k _ rfl hown (by unfold maxLen; omega) _ _ _ rfl rfl hkey _ [] (plainElem_int Tryd.underlying5 hwf) ?_)
      intro w2 hown2 hgrow
      have HK : Hid (w2.ownsMap Tryd.prog 3 (plainElem (H := Unit) Tryd.prog 5) w.heap.size (k + 1) (Dk user (k + 1)) ∧ (∀ i, i < 256 → w2.cell? ⟨b, off + i, none⟩ = some (.int .i64 ((M.tblOf user 256).getD i 0))) ∧ Below w.heap.size w w2) := by
        refine hide ⟨by rw [unhide HS]; exact hown2, fun i hi => ?_, (unhide HBW).grown hgrow (unhide HBW).size (fun j hj => by cases hj; exact Nat.le_refl _)⟩
        rw [← unhide HCL i hi]
        have := hgrow.block b hbr (fun e => hne (by injection e))
        simp only [World.cell?, this]
      clear hown hown2 hgrow
      go_wp2_with fail
      go_roundw
      case rel => exact ⟨k + 1, by omega, by go_num, HK⟩
      case measure => simp [intOf]; omega
    · have ek : k = 256 := by omega
      subst ek
      go_wp2_with fail
      go_ret
      exact ⟨rfl, hown, hbw⟩

theorem lit_inj {a b : Int} (h : (DataW.lit (.int .u8 a) : DataW Unit) = .lit (.int .u8 b)) : b = a := by
  injection h with e
  injection e with _ e
  exact e.symm

end Go.Proofs.YthhjfedegbldfadDoor
