/- The contract of utf8.Split: of a text of at most 3000 bytes the size of its open piece and OK, of a longer one 0 and ErrMany; nothing that was there is written. -/
import Derived.Test.YthhjfedegbldfaaD
namespace Go.Proofs.Ythhjfedegbldfaa
open Go.RowKit
set_option linter.unusedVariables false

namespace M
def pick (a : Int) (p : Int × Int × Bool) : Int := if p.2.2 then p.2.1 else a
theorem lft_step {pt sz : Int} {op : Bool} (n : Int) (l : List Int) (h : nxt l = (pt, sz, op)) (hn : l ≠ []) :
    (pieces l).foldl pick n = (pieces (l.drop sz.toNat)).foldl pick (if op then sz else n) := by
  rw [pieces_ne hn, h]
  rfl
theorem spl_eq (l : List Int) : spl l = (pieces l).foldl pick 0 := rfl
end M

set_option maxHeartbeats 400000 in
set_option maxRecDepth 100000 in
theorem set_any (B : Nat) (pt sz n : Int) (op : Bool) (w : World) (hv : w.heap[B]? = some (.cells #[.int .i64 n] 3 (0, 0))) :
    Calls Try.prog 26 #[.agg #[.int .i64 pt, .int .i64 sz, .bool op], .pointer (some ⟨B, 0, none⟩)] w fun e w' => e = .returned (.tuple #[]) ∧
      w'.heap[B]? = some (.cells #[.int .i64 (if op then sz else n)] 3 (0, 0)) ∧ Below B w w' ∧ (∀ b, b < w.heap.size → b ≠ B → w'.heap[b]? = w.heap[b]?) := by
  have hc := cell_of_one hv
  have hf := free_of_one hv
  have hlt := lt_of_block hv
  have HV := hide hv
  have hv1 : (w.alloc (.cells #[.int .i64 pt, .int .i64 sz, .bool op] 45)).heap[B]? = some (.cells #[.int .i64 n] 3 (0, 0)) := by rw [Below.heap_alloc _ _ _ hlt]; exact hv
  have HA := hide hv1
  clear hv hv1
  cases op
  · go_enter Try.func26, Try.ntmps26
    go_wp2
    go_end0
    exact ⟨rfl, unhide HA, (Below.refl _ _).alloc (by omega) _, fun b h1 h2 => Below.heap_alloc _ _ _ h1⟩
  · go_enter Try.func26, Try.ntmps26
    go_wp2
    go_end0
    have hz : (w.setCell ⟨B, 0, none⟩ (.int .i64 sz)).heap.size = w.heap.size := by simp [World.setCell]
    exact ⟨rfl, (Below.heap_alloc _ _ _ (by omega)).trans (one_setCell (unhide HV)), ((Below.refl B w).setCell (p := ⟨B, 0, none⟩) (Nat.le_refl _) (.int .i64 sz)).alloc (by omega) _, fun b h1 h2 => (Below.heap_alloc _ _ _ (by omega)).trans (Below.heap_setCell _ _ _ _ h2)⟩

/-- What a round of walk knows, the closure keeping a number in block B. -/
def InS (s : ByteArray) (B : Nat) (w wr : World) (k : Nat) (n : Int) : Prop :=
  wr.heap[B]? = some (.cells #[.int .i64 n] 3 (0, 0)) ∧ Below B w wr ∧ B + 1 ≤ wr.heap.size ∧ (M.pieces ((bl s).drop k)).foldl M.pick n = M.spl (bl s)

set_option maxHeartbeats 400000 in
set_option maxRecDepth 100000 in
theorem walk_spl (s : ByteArray) (B : Nat) (w : World) (hs : s.size ≤ 3000) (hv : w.heap[B]? = some (.cells #[.int .i64 0] 3 (0, 0))) :
    Calls Try.prog 20 #[.string s, .func (Fn.func 26) #[] #[.pointer (some ⟨B, 0, none⟩)]] w fun e w' => e = .returned (.tuple #[]) ∧
      w'.heap[B]? = some (.cells #[.int .i64 (M.spl (bl s))] 3 (0, 0)) ∧ Below B w w' := by
  have hlt := lt_of_block hv
  have HI : InS s B w w 0 0 := ⟨hv, Below.refl _ _, by omega, by simp [M.spl_eq]⟩
  clear hv
  go_enter Try.func20, Try.ntmps20
  go_wp2_with fail
  go_loopw [4] (fun i wr => ∃ (k : Nat) (n : Int), k ≤ s.size ∧ i = .int .i64 k ∧ InS s B w wr k n) (fun i _ => s.size - (intOf i).toNat)
  case atStart => exact ⟨0, _, by omega, rfl, HI⟩
  case round =>
    obtain ⟨k, n, hk, rfl, hI⟩ := hrel
    clear HI
    by_cases hks : k < s.size
    · obtain ⟨hv, hbel, hsz, heq⟩ := hI
      have HV := hide hv
      have HE := hide heq
      have HS := M.nxt_size' ((bl s).drop k) (by simp [bl_len]; omega)
      clear hv heq
      go_wp2_with fail
      refine (next_any (s.extract k s.size) _ (by simp; omega) (by simp; omega)).mono ?_
      rintro e w1 ⟨rfl, hb1⟩
      rw [bl_extract]
      obtain ⟨pt, sz, op, HN⟩ : ∃ pt sz op, Hid (M.nxt ((bl s).drop k) = (pt, sz, op)) := ⟨_, _, _, rfl⟩
      have hnn := hide (show (bl s).drop k ≠ [] from fun e => by have := congrArg List.length e; simp [bl_len] at this; omega)
      rw [unhide HN] at HS ⊢
      simp only [List.length_drop, bl_len] at HS
      go_wp2_with fail
      have hw1 := hb1.size
      have hv1 : w1.heap[B]? = some (.cells #[.int .i64 n] 3 (0, 0)) := (hb1.block B (by omega)).trans (unhide HV)
      refine (set_any B pt sz n op _ (by rw [Below.heap_alloc _ _ _ (by omega)]; exact hv1)).mono ?_
      rintro e w2 ⟨rfl, hv2, hbel2, hkeep⟩
      have hp : w2.heap[w1.heap.size]? = some (.cells #[.int .i64 pt, .int .i64 sz, .bool op] 45) := by
        rw [hkeep w1.heap.size (by simp) (by omega)]
        exact heap_alloc_new _ _
      have hcp : w2.cell? ⟨w1.heap.size, 1, none⟩ = some (.int .i64 sz) := by simp [World.cell?, hp]
      have hz2 := hbel2.size
      simp at hz2
      have HI : InS s B w w2 (k + sz.toNat) (if op then sz else n) := by
        refine ⟨hv2, ?_, by omega, ?_⟩
        · exact (hbel.trans (hb1.mono (by omega))).trans (((Below.refl _ _).alloc (by omega) _).trans hbel2)
        · rw [← unhide HE, ← List.drop_drop]
          exact (M.lft_step n _ (unhide HN) (unhide hnn)).symm
      clear hp hkeep hv1 hv2 hbel2
      go_wp2_with fail
      go_roundw
      case rel => exact ⟨k + sz.toNat, _, by omega, by go_num, HI⟩
      case measure => simp [intOf]; omega
    · go_wp2_with fail
      go_end0
      obtain ⟨h1, h3, h4, h6⟩ := hI
      rw [List.drop_of_length_le (by rw [bl_len]; omega)] at h6
      have e : n = M.spl (bl s) := by rw [← h6]; simp [M.pieces_nil]
      subst e
      exact ⟨rfl, h1, h3⟩

set_option maxHeartbeats 400000 in
set_option maxRecDepth 100000 in
theorem spl1_any (s : ByteArray) (w : World) (hs : s.size ≤ 3000) :
    Calls Try.prog 25 #[.string s] w fun e w' => e = .returned (.int .i64 (M.spl (bl s))) ∧ Below w.heap.size w w' := by
  go_enter Try.func25, Try.ntmps25
  go_wp2_with fail
  refine (walk_spl s w.heap.size _ hs (heap_alloc_new _ _)).mono ?_
  rintro e w1 ⟨rfl, hv, hbel⟩
  have hc := cell_of_one hv
  have hb := hide (((Below.refl w.heap.size w).alloc (Nat.le_refl _) (.cells #[.int .i64 0] 3)).trans hbel)
  clear hv hbel
  go_wp2_with fail
  go_ret
  exact ⟨rfl, unhide hb⟩

set_option maxHeartbeats 400000 in
set_option maxRecDepth 100000 in
theorem split_any (s : ByteArray) (w : World) (hs : s.size ≤ 3000) :
    Calls Try.prog 9 #[.string s] w fun e w' => e = .returned (.tuple #[.int .i64 (M.spl (bl s)), .int .i64 0]) ∧ Below w.heap.size w w' := by
  go_enter Try.func9, Try.ntmps9
  go_wp2_with (first | (go_at_call 25; refine (spl1_any _ _ hs).mono ?_; rintro e w1 ⟨rfl, hb⟩) | go_in)
  go_ret2
  exact ⟨rfl, by assumption⟩

set_option maxHeartbeats 400000 in
set_option maxRecDepth 100000 in
theorem split_long (s : ByteArray) (w : World) (hs : 3000 < s.size) (hm : s.size ≤ maxLen) :
    Calls Try.prog 9 #[.string s] w fun e w' => e = .returned (.tuple #[.int .i64 0, .int .i64 2]) ∧ w' = w := by
  unfold maxLen at hm
  go_enter Try.func9, Try.ntmps9
  go_wp2
  go_ret2
  exact ⟨rfl, rfl⟩
end Go.Proofs.Ythhjfedegbldfaa
