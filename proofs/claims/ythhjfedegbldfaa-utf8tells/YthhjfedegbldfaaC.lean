/- The contracts of utf8.walk with the two closures that are handed to it. -/
import Derived.Test.YthhjfedegbldfaaB
namespace Go.Proofs.Ythhjfedegbldfaa
open Go.RowKit
set_option linter.unusedVariables false

theorem owns_shape {w : World} {base e size n : Nat} {v : Value} {xs : List Value} (h : w.ownsRow base e size v n xs) : ∃ ao cap, v = .slice ao n cap := by
  rcases h.2 with ⟨rfl, rfl⟩ | ⟨g, cap, cur, rfl, _⟩
  · exact ⟨_, _, rfl⟩
  · exact ⟨_, _, rfl⟩
theorem info3 : (Try.prog.info? 3).map (fun i => (i.zero, i.size, i.bytes)) = some (some (.int .i64 0), 1, 8) := by kernel_rfl

set_option maxHeartbeats 400000 in
set_option maxRecDepth 100000 in
theorem push_any (B base : Nat) (pt sz : Int) (op : Bool) (v : Value) (xs : List Int) (w : World) (hB : B < base) (hbase : base ≤ w.heap.size)
    (hv : w.heap[B]? = some (.cells #[v] 22 (0, 0))) (hown : w.ownsRow base 3 1 v xs.length (xs.map (Value.int .i64))) (hn : xs.length ≤ 3000) :
    Calls Try.prog 21 #[.agg #[.int .i64 pt, .int .i64 sz, .bool op], .pointer (some ⟨B, 0, none⟩)] w fun e w' => e = .returned (.tuple #[]) ∧
      ∃ v', w'.heap[B]? = some (.cells #[v'] 22 (0, 0)) ∧ w'.ownsRow base 3 1 v' (xs ++ [pt]).length ((xs ++ [pt]).map (Value.int .i64)) ∧ Below B w w' ∧ (∀ b, b < w.heap.size → b ≠ B → some b ≠ v.ownBlock → w'.heap[b]? = w.heap[b]?) := by
  have hc := cell_of_one hv
  have hf := free_of_one hv
  obtain ⟨i0, hi, hz0, hz1, hz2⟩ := info_parts info3
  have hlt : B < w.heap.size := by omega
  have HV := hide hv
  clear hv
  go_enter Try.func21, Try.ntmps21
  go_wp2_with (at_builtin; refine wpList_append_own _ rfl (.tmp 3) (.tmp 6) 22 rfl base 3 i0 (.int .i64 0) 1 8 Try.underlying22 hi hz0 hz1 hz2 rfl (by decide) _ _ _ rfl ((hown.alloc _).alloc _) ⟨w.heap.size + 1, 0, none⟩ 1 1 [.int .i64 pt] rfl rfl ?c1 ?c2 ?c3 ?c4 ?c5 ?_)
  case c1 =>
    intro j u hj
    match j, hj with
    | 0, hj => simp at hj; subst hj; simp [Addr.add]
  case c2 => intro u hu; simp at hu; subst hu; rfl
  case c3 => unfold maxLen; omega
  case c4 => omega
  case c5 => simp; omega
  intro v' w1 hown' hgrow _
  obtain ⟨ao', cap', rfl⟩ := owns_shape hown'
  have hne : some B ≠ v.ownBlock := fun e => by have := hown.lt B e.symm; omega
  have hv1 : w1.heap[B]? = some (.cells #[v] 22 (0, 0)) := by
    rw [hgrow.block B (by simp; omega) hne, Below.heap_alloc _ _ _ (by simp; omega), Below.heap_alloc _ _ _ hlt]
    exact unhide HV
  have hc1 := cell_of_one hv1
  have hf1 := free_of_one hv1
  have R1 := hide (one_setCell (u := .slice ao' (xs.length + 1) cap') hv1)
  have R2 := hide (ownsRow_setCell_below hown' (a := ⟨B, 0, none⟩) hB (.slice ao' (xs.length + 1) cap'))
  have R3 : Below B w (w1.setCell ⟨B, 0, none⟩ (.slice ao' (xs.length + 1) cap')) := by
    have h1 := (((Below.refl B w).alloc (by omega) (.cells #[.int .i64 pt, .int .i64 sz, .bool op] 45)).alloc (by simp; omega) (.cells #[.int .i64 pt] 3)).grown hgrow (by simp; omega) (fun k hk => by have := hown.lt k hk; omega)
    exact h1.setCell (Nat.le_refl _) _
  have R4 := hide (fun b (h1 : b < w.heap.size) (h2 : b ≠ B) (h3 : some b ≠ v.ownBlock) => show (w1.setCell ⟨B, 0, none⟩ (.slice ao' (xs.length + 1) cap')).heap[b]? = w.heap[b]? from by
    rw [Below.heap_setCell _ _ _ _ h2, hgrow.block b (by simp; omega) h3, Below.heap_alloc _ _ _ (by simp; omega), Below.heap_alloc _ _ _ h1])
  clear hc hf hv1 HV hown hown' hgrow
  go_wp2_with fail
  go_end0
  exact ⟨rfl, _, unhide R1, by simpa using unhide R2, R3, unhide R4⟩

theorem bl_extract (s : ByteArray) (k : Nat) : bl (s.extract k s.size) = (bl s).drop k := by
  simp [bl, ByteArray.data_extract]
  rw [List.take_of_length_le]
  simp
theorem owns_below {w w1 : World} {base e size n : Nat} {v : Value} {xs : List Value} (h : w.ownsRow base e size v n xs) (hb : Below w.heap.size w w1) : w1.ownsRow base e size v n xs := by
  refine ⟨h.1, ?_⟩
  rcases h.2 with hn | ⟨g, cap, cur, rfl, hg, hh, rest⟩
  · exact .inl hn
  · refine .inr ⟨g, cap, cur, rfl, hg, ?_, rest⟩
    rw [hb.block g (lt_of_block hh)]; exact hh
/-- What a round of walk knows, the closure gathering code points in block B. -/
def InW (s : ByteArray) (B : Nat) (w wr : World) (k : Nat) (xs : List Int) (v : Value) : Prop :=
  wr.heap[B]? = some (.cells #[v] 22 (0, 0)) ∧ wr.ownsRow (B + 1) 3 1 v xs.length (xs.map (Value.int .i64)) ∧ Below B w wr ∧ B + 1 ≤ wr.heap.size ∧ xs.length ≤ k ∧ xs ++ M.dec ((bl s).drop k) = M.dec (bl s)

set_option maxHeartbeats 400000 in
set_option maxRecDepth 100000 in
theorem walk_dec (s : ByteArray) (B : Nat) (w : World) (hs : s.size ≤ 3000) (hv : w.heap[B]? = some (.cells #[.slice none 0 0] 22 (0, 0))) :
    Calls Try.prog 20 #[.string s, .func (Fn.func 21) #[] #[.pointer (some ⟨B, 0, none⟩)]] w fun e w' => e = .returned (.tuple #[]) ∧
      ∃ v', w'.heap[B]? = some (.cells #[v'] 22 (0, 0)) ∧ w'.ownsRow (B + 1) 3 1 v' (M.dec (bl s)).length ((M.dec (bl s)).map (Value.int .i64)) ∧ Below B w w' := by
  have hlt := lt_of_block hv
  have HI : InW s B w w 0 [] (.slice none 0 0) := ⟨hv, World.ownsRow_nil _ _ _ _, Below.refl _ _, by omega, Nat.le_refl _, by simp⟩
  clear hv
  go_enter Try.func20, Try.ntmps20
  go_wp2_with fail
  go_loopw [4] (fun i wr => ∃ (k : Nat) (xs : List Int) (v : Value), k ≤ s.size ∧ i = .int .i64 k ∧ InW s B w wr k xs v) (fun i _ => s.size - (intOf i).toNat)
  case atStart => exact ⟨0, [], _, by omega, rfl, HI⟩
  case round =>
    obtain ⟨k, xs, v, hk, rfl, hI⟩ := hrel
    clear HI
    by_cases hks : k < s.size
    · obtain ⟨hv, hown, hbel, hsz, hlen, heq⟩ := hI
      have HV := hide hv
      have HE := hide heq
      have HS := M.nxt_size' ((bl s).drop k) (by simp [bl_len]; omega)
      clear hv heq
      go_wp2_with fail
      refine (next_any (s.extract k s.size) _ (by simp; omega) (by simp; omega)).mono ?_
      rintro e w1 ⟨rfl, hb1⟩
      rw [bl_extract]
      obtain ⟨pt, sz, op, HN⟩ : ∃ pt sz op, Hid (M.nxt ((bl s).drop k) = (pt, sz, op)) := ⟨_, _, _, rfl⟩
      have hnn := hide (show (bl s).drop k ≠ [] from fun e => by have := congrArg List.length e; simp [bl_len] at this; omega)
      rw [unhide HN] at HS ⊢
      simp only [List.length_drop, bl_len] at HS
      go_wp2_with fail
      have hw1 := hb1.size
      have hv1 : w1.heap[B]? = some (.cells #[v] 22 (0, 0)) := (hb1.block B (by omega)).trans (unhide HV)
      have hown1 := owns_below hown hb1
      refine (push_any B (B + 1) pt sz op v xs _ (by omega) (by simp; omega) (by rw [Below.heap_alloc _ _ _ (by omega)]; exact hv1) (hown1.alloc _) (by omega)).mono ?_
      rintro e w2 ⟨rfl, v2, hv2, hown2, hbel2, hkeep⟩
      have hp : w2.heap[w1.heap.size]? = some (.cells #[.int .i64 pt, .int .i64 sz, .bool op] 45) := by
        rw [hkeep w1.heap.size (by simp) (by omega) (fun e => by have := hown.lt _ e.symm; omega)]
        exact heap_alloc_new _ _
      have hcp : w2.cell? ⟨w1.heap.size, 1, none⟩ = some (.int .i64 sz) := by simp [World.cell?, hp]
      have hz2 := hbel2.size
      simp at hz2
      have HI : InW s B w w2 (k + sz.toNat) (xs ++ [pt]) v2 := by
        refine ⟨hv2, hown2, ?_, by omega, by simp; omega, ?_⟩
        · exact (hbel.trans (hb1.mono (by omega))).trans (((Below.refl _ _).alloc (by omega) _).trans hbel2)
        · rw [← unhide HE, List.append_assoc]
          congr 1
          rw [← List.drop_drop]
          exact (M.dec_step _ HN hnn).symm
      clear hp hkeep hown1 hv1 hown2 hv2 hbel2
      go_wp2_with fail
      go_roundw
      case rel => exact ⟨k + sz.toNat, xs ++ [pt], v2, by omega, by go_num, HI⟩
      case measure => simp [intOf]; omega
    · go_wp2_with fail
      go_end0
      obtain ⟨h1, h2, h3, h4, h5, h6⟩ := hI
      rw [List.drop_of_length_le (by rw [bl_len]; omega)] at h6
      have e : xs = M.dec (bl s) := by rw [← h6]; simp [M.dec, M.pieces_nil]
      subst e
      exact ⟨rfl, v, h1, h2, h3⟩
end Go.Proofs.Ythhjfedegbldfaa
