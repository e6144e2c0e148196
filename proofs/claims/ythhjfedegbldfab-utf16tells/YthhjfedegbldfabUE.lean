/- The contract of cartoucheref.EncodeUtf16: the bytes of the units of scalars; nothing that was there is written. Condition: at most 3000 integers, all scalars. -/
import Derived.Test.YthhjfedegbldfabUC
namespace Go.Proofs.Ythhjfedegbldfab
open Go.RowKit
set_option linter.unusedVariables false

set_option maxHeartbeats 400000 in
set_option maxRecDepth 100000 in
theorem encRef16_none (big : Bool) (ao : Option Addr) (cap : Nat) (w : World) : Calls Try.prog 14 #[.bool big, .slice ao 0 cap] w fun e w' => e = .returned (.string ⟨#[]⟩) ∧ w' = w := by
  go_enter Try.func14, Try.ntmps14
  go_wp2
  refine wp_loop_rounds 1 ?_
  rw [rounds_succ]
  go_wp2
  go_ret
  exact ⟨rfl, rfl⟩

theorem conv2 (w0 : World) (x y : Int) (B : Nat) (hB : w0.heap.size = B) :
    (convert 44 9 (.slice (some ⟨B, 0, none⟩) 2 2)).run Try.prog (w0.alloc (.cells #[.int .u8 x, .int .u8 y] 5)) = .ok (.string (strOfNums [x, y])) (w0.alloc (.cells #[.int .u8 x, .int .u8 y] 5)) := by
  subst hB
  exact conv_built [x, y] 2 2 rfl (heap_alloc_new _ _)
theorem below_da {w wr : World} (h : Below w.heap.size w wr) (o o' : Obj) (q : Nat) : Below w.heap.size w (((wr.alloc o).drewN q).alloc o') := by
  have h1 := below_drewN (h.alloc h.size o) q
  exact h1.alloc h1.size o'

set_option maxHeartbeats 400000 in
set_option maxRecDepth 100000 in
theorem encRef16_some (big : Bool) (b off cap : Nat) (xs : List Int) (w : World) (h0 : xs ≠ []) (h : xs.length ≤ 3000) (ha : xs.all M.sclr = true) (hc : ∀ i, i < xs.length → w.cell? ⟨b, off + i, none⟩ = some (.int .i64 (xs.getD i 0))) :
    Calls Try.prog 14 #[.bool big, .slice (some ⟨b, off, none⟩) xs.length cap] w fun e w' => e = .returned (.string (strOfNums (M.enc16 big xs))) ∧ Below w.heap.size w w' := by
  have hlen : 0 < xs.length := List.length_pos_iff.2 h0
  have hbl : b < w.heap.size := World.block_lt_of_cell? w _ (hc 0 hlen)
  have HC := hide hc
  have HA := hide ha
  clear hc h0 ha
  go_enter Try.func14, Try.ntmps14
  go_wp2_with fail
  go_loopw [5, 6] (fun sv i wr => ∃ k : Nat, k ≤ xs.length ∧ i = .int .i64 k ∧ sv = .string (strOfNums (M.enc16 big (xs.take k))) ∧ Below w.heap.size w wr) (fun _ i _ => xs.length - (intOf i).toNat)
  case atStart => exact ⟨0, by omega, rfl, rfl, Below.refl _ _⟩
  case round =>
    obtain ⟨k, hk, rfl, rfl, hbw⟩ := hrel
    by_cases hlt : k < xs.length
    · have hcell : wr.cell? ⟨b, off + k, none⟩ = some (.int .i64 (xs.getD k 0)) := (hbw.cell (p := ⟨b, off + k, none⟩) hbl).trans (unhide HC k hlt)
      have hbr : b < wr.heap.size := Nat.lt_of_lt_of_le hbl hbw.size
      have hp := all_at (unhide HA) hlt
      obtain ⟨p, HP⟩ : ∃ p, Hid (xs.getD k 0 = p) := ⟨_, rfl⟩
      rw [unhide HP] at hcell hp
      have hsz1 : (strOfNums (M.enc16 big (xs.take k))).size ≤ 12000 := by
        rw [strOfNums_size]; have := M.enc16_len big (xs.take k); have := List.length_take_le k xs; omega
      have HB := hide hbw
      clear hbw
      by_cases hs : p < 65536
      · have HT : Hid (strOfNums (M.enc16 big (xs.take k)) ++ strOfNums (M.two big p) = strOfNums (M.enc16 big (xs.take (k + 1)))) := by
          refine hide ?_
          rw [str_app, take_snoc xs k hlt, M.enc16_snoc, unhide HP]
          congr 1
          rw [M.enc16a, if_pos hs]
        have hsz2 : (strOfNums (M.two big p)).size = 2 := by rw [strOfNums_size]; exact M.two_len big p
        generalize strOfNums (M.enc16 big (xs.take k)) = t1 at *
        cases big
        · have h2 := hide (show strOfNums (M.two false p) = strOfNums [p % 256, p / 256] from rfl)
          rw [unhide h2] at HT hsz2
          clear h2
          go_wp2_with fail
          refine wp_loop_rounds 2 ?_
          rw [rounds_succ]
          go_wp2_with fail
          go_quiet (fail)
          have hcv := conv2 ((wr.alloc (.cells #[.int .i64 p] 3)).drewN nq) (p % 256) (p / 256) (wr.heap.size + 1) (by simp)
          generalize strOfNums [p % 256, p / 256] = t2 at *
          go_wp2_with fail
          rw [rounds_succ]
          go_wp2_with fail
          go_roundw
          case rel => exact ⟨k + 1, by omega, by go_num, by rw [← unhide HT], below_da (unhide HB) _ _ _⟩
          case measure => simp [intOf]; omega
        · have h2 := hide (show strOfNums (M.two true p) = strOfNums [p / 256, p % 256] from rfl)
          rw [unhide h2] at HT hsz2
          clear h2
          go_wp2_with fail
          refine wp_loop_rounds 2 ?_
          rw [rounds_succ]
          go_wp2_with fail
          go_quiet (fail)
          have hcv := conv2 ((wr.alloc (.cells #[.int .i64 p] 3)).drewN nq) (p / 256) (p % 256) (wr.heap.size + 1) (by simp)
          generalize strOfNums [p / 256, p % 256] = t2 at *
          go_wp2_with fail
          rw [rounds_succ]
          go_wp2_with fail
          go_roundw
          case rel => exact ⟨k + 1, by omega, by go_num, by rw [← unhide HT], below_da (unhide HB) _ _ _⟩
          case measure => simp [intOf]; omega
      · have HT : Hid (strOfNums (M.enc16 big (xs.take k)) ++ strOfNums (M.two big (55296 + (p - 65536) / 1024)) ++ strOfNums (M.two big (56320 + (p - 65536) % 1024)) = strOfNums (M.enc16 big (xs.take (k + 1)))) := by
          refine hide ?_
          rw [str_app, str_app, take_snoc xs k hlt, M.enc16_snoc, unhide HP, List.append_assoc]
          congr 2
          rw [M.enc16a, if_neg hs]
        obtain ⟨u, HU⟩ : ∃ u, Hid (55296 + (p - 65536) / 1024 = u) := ⟨_, rfl⟩
        obtain ⟨v, HV⟩ : ∃ v, Hid (56320 + (p - 65536) % 1024 = v) := ⟨_, rfl⟩
        have hsz2 : (strOfNums (M.two big u)).size = 2 := by rw [strOfNums_size]; exact M.two_len big u
        have hsz3 : (strOfNums (M.two big v)).size = 2 := by rw [strOfNums_size]; exact M.two_len big v
        have hu : 0 ≤ u ∧ u < 65536 := by have := unhide HU; omega
        have hv : 0 ≤ v ∧ v < 65536 := by have := unhide HV; omega
        have hU := unhide HU
        have hV := unhide HV
        rw [unhide HU, unhide HV] at HT
        generalize strOfNums (M.enc16 big (xs.take k)) = t1 at *
        go_wp2_with fail
        go_region
        have hW : ∃ W2 : World, ((wr.alloc (.cells #[.int .i64 p] 3)).alloc (.cells #[.int .i64 u, .int .i64 v] 3)).drew = W2 := ⟨_, rfl⟩
        obtain ⟨W2, hW⟩ := hW
        have c0 : W2.cell? ⟨wr.heap.size + 1, 0, none⟩ = some (.int .i64 u) := by rw [← hW]; simp
        have c1 : W2.cell? ⟨wr.heap.size + 1, 1, none⟩ = some (.int .i64 v) := by rw [← hW]; simp
        have hz2 : W2.heap.size = wr.heap.size + 2 := by rw [← hW]; simp
        have HW2 : Hid (Below w.heap.size w W2) := by
          have h1 := (unhide HB).alloc (unhide HB).size (.cells #[.int .i64 p] 3)
          have h2 := h1.alloc h1.size (.cells #[.int .i64 u, .int .i64 v] 3)
          exact hide (by rw [← hW]; exact below_drewN h2 1)
        rw [hW]
        clear hW hU hV
        cases big
        · have h2 := hide (show strOfNums (M.two false u) = strOfNums [u % 256, u / 256] from rfl)
          have h3 := hide (show strOfNums (M.two false v) = strOfNums [v % 256, v / 256] from rfl)
          rw [unhide h2] at HT hsz2
          rw [unhide h3] at HT hsz3
          clear h2 h3
          go_wp2_with fail
          refine wp_loop_rounds 3 ?_
          rw [rounds_succ]
          go_wp2_with fail
          go_quiet (fail)
          have hcv := conv2 (W2.drewN nq) (u % 256) (u / 256) (wr.heap.size + 2) (by simp [hz2])
          generalize strOfNums [u % 256, u / 256] = t2 at *
          have HW3 : Hid (Below w.heap.size w ((W2.drewN nq).alloc (.cells #[.int .u8 (u % 256), .int .u8 (u / 256)] 5))) := hide ((below_drewN (unhide HW2) nq).alloc (below_drewN (unhide HW2) nq).size _)
          go_wp2_with fail
          have hW : ∃ W3 : World, (W2.drewN nq).alloc (.cells #[.int .u8 (u % 256), .int .u8 (u / 256)] 5) = W3 := ⟨_, rfl⟩
          obtain ⟨W3, hW⟩ := hW
          have d1 : W3.cell? ⟨wr.heap.size + 1, 1, none⟩ = some (.int .i64 v) := by rw [← hW, ← c1]; exact (balloc (W2.drewN nq) _).cell (p := ⟨wr.heap.size + 1, 1, none⟩) (show wr.heap.size + 1 < W2.heap.size by omega)
          have hz3 : W3.heap.size = wr.heap.size + 3 := by rw [← hW]; simp [hz2]
          rw [hW] at HW3 ⊢
          clear hW hcv c0 c1
          rw [rounds_succ]
          go_wp2_with fail
          go_quiet (fail)
          have hcv := conv2 (W3.drewN nq) (v % 256) (v / 256) (wr.heap.size + 3) (by simp [hz3])
          generalize strOfNums [v % 256, v / 256] = t3 at *
          go_wp2_with fail
          rw [rounds_succ]
          go_wp2_with fail
          go_roundw
          case rel => exact ⟨k + 1, by omega, by go_num, by rw [← unhide HT], (below_drewN (unhide HW3) nq).alloc (below_drewN (unhide HW3) nq).size _⟩
          case measure => simp [intOf]; omega
        · have h2 := hide (show strOfNums (M.two true u) = strOfNums [u / 256, u % 256] from rfl)
          have h3 := hide (show strOfNums (M.two true v) = strOfNums [v / 256, v % 256] from rfl)
          rw [unhide h2] at HT hsz2
          rw [unhide h3] at HT hsz3
          clear h2 h3
          go_wp2_with fail
          refine wp_loop_rounds 3 ?_
          rw [rounds_succ]
          go_wp2_with fail
          go_quiet (fail)
          have hcv := conv2 (W2.drewN nq) (u / 256) (u % 256) (wr.heap.size + 2) (by simp [hz2])
          generalize strOfNums [u / 256, u % 256] = t2 at *
          have HW3 : Hid (Below w.heap.size w ((W2.drewN nq).alloc (.cells #[.int .u8 (u / 256), .int .u8 (u % 256)] 5))) := hide ((below_drewN (unhide HW2) nq).alloc (below_drewN (unhide HW2) nq).size _)
          go_wp2_with fail
          have hW : ∃ W3 : World, (W2.drewN nq).alloc (.cells #[.int .u8 (u / 256), .int .u8 (u % 256)] 5) = W3 := ⟨_, rfl⟩
          obtain ⟨W3, hW⟩ := hW
          have d1 : W3.cell? ⟨wr.heap.size + 1, 1, none⟩ = some (.int .i64 v) := by rw [← hW, ← c1]; exact (balloc (W2.drewN nq) _).cell (p := ⟨wr.heap.size + 1, 1, none⟩) (show wr.heap.size + 1 < W2.heap.size by omega)
          have hz3 : W3.heap.size = wr.heap.size + 3 := by rw [← hW]; simp [hz2]
          rw [hW] at HW3 ⊢
          clear hW hcv c0 c1
          rw [rounds_succ]
          go_wp2_with fail
          go_quiet (fail)
          have hcv := conv2 (W3.drewN nq) (v / 256) (v % 256) (wr.heap.size + 3) (by simp [hz3])
          generalize strOfNums [v / 256, v % 256] = t3 at *
          go_wp2_with fail
          rw [rounds_succ]
          go_wp2_with fail
          go_roundw
          case rel => exact ⟨k + 1, by omega, by go_num, by rw [← unhide HT], (below_drewN (unhide HW3) nq).alloc (below_drewN (unhide HW3) nq).size _⟩
          case measure => simp [intOf]; omega
    · have ek : k = xs.length := by omega
      subst ek
      rw [List.take_length]
      go_wp2_with fail
      go_ret
      exact ⟨rfl, hbw⟩

theorem encRef16_any (big : Bool) {v : Value} {xs : List Int} (w : World) (hx : Ints w v xs) (h : xs.length ≤ 3000) (ha : xs.all M.sclr = true) :
    Calls Try.prog 14 #[.bool big, v] w fun e w' => e = .returned (.string (strOfNums (M.enc16 big xs))) ∧ Below w.heap.size w w' := by
  obtain ⟨ao, cap, rfl, hm, -, hx⟩ := hx
  by_cases h0 : xs = []
  · subst h0
    refine (encRef16_none big ao cap w).mono ?_
    rintro e w' ⟨rfl, rfl⟩
    exact ⟨rfl, Below.refl _ _⟩
  · rcases hx with hx | ⟨b, off, rfl, hc⟩
    · exact absurd hx h0
    · exact encRef16_some big b off cap xs w h0 h ha hc
end Go.Proofs.Ythhjfedegbldfab
