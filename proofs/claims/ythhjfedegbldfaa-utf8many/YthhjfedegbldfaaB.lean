/- The contract of utf8.next. -/
import Derived.Test.YthhjfedegbldfaaA
import Derived.WalkSmall
import Derived.Laws.BitsLemmas
namespace Go.Proofs.Ythhjfedegbldfaa
open Go.RowKit
set_option linter.unusedVariables false

def bl (s : ByteArray) : List Int := s.data.toList.map (fun u => (u.toNat : Int))
theorem bcell {W w1 : World} (hb : Below W.heap.size W w1) : (∀ b o, b < W.heap.size → w1.cell? ⟨b, o, none⟩ = W.cell? ⟨b, o, none⟩) ∧ (∀ b o, b < W.heap.size → w1.frozen? ⟨b, o, none⟩ = W.frozen? ⟨b, o, none⟩) :=
  ⟨fun b o h => hb.cell (p := ⟨b, o, none⟩) h, fun b o h => hb.frozen (p := ⟨b, o, none⟩) h⟩

theorem bl_len (s : ByteArray) : (bl s).length = s.size := by simp [bl]
theorem bl_drop (s : ByteArray) (k : Nat) (h : k < s.size) : (bl s).drop k = (s[k].toNat : Int) :: (bl s).drop (k + 1) := by
  rw [List.drop_eq_getElem_cons (by rw [bl_len]; exact h)]
  congr 1
  simp [bl]; rfl
theorem bl_0 (s : ByteArray) (h : 0 < s.size) : bl s = (s[0].toNat : Int) :: (bl s).drop 1 := by
  have := bl_drop s 0 h; simpa using this

theorem nxt_zero (s : ByteArray) (h : 0 < s.size) (hz : M.bSize s[0].toNat = 0) : M.nxt (bl s) = (65533, 1, false) := by
  rw [bl_0 s h]; simp [M.nxt, hz]
theorem nxt_start (s : ByteArray) (h : 0 < s.size) (hz : ¬ M.bSize s[0].toNat = 0) :
    M.go (M.bSize s[0].toNat - 1).toNat 1 (M.bBits s[0].toNat) (M.bLow s[0].toNat) (M.bHigh s[0].toNat) ((bl s).drop 1) = M.nxt (bl s) := by
  conv => rhs; rw [bl_0 s h]
  simp [M.nxt, hz]
theorem go_step {s : ByteArray} {k : Nat} (hk : k < s.size) {sz P L H : Int} (h : (k : Int) < sz) (h1 : L ≤ s[k].toNat) (h2 : (s[k].toNat : Int) ≤ H) {r : Int × Int × Bool}
    (hg : M.go (sz - k).toNat k P L H ((bl s).drop k) = r) : M.go (sz - ((k + 1 : Nat) : Int)).toNat ((k + 1 : Nat) : Int) (P * 64 + s[k].toNat % 64) 128 191 ((bl s).drop (k + 1)) = r := by
  rw [← hg, bl_drop s k hk]
  obtain ⟨m, hm⟩ : ∃ m : Nat, (sz - k).toNat = m + 1 := ⟨(sz - k).toNat - 1, by omega⟩
  rw [hm, show (sz - ((k + 1 : Nat) : Int)).toNat = m from by omega]
  simp only [M.go]
  rw [if_neg (by omega)]
  simp
theorem go_bad {s : ByteArray} {k : Nat} (hk : k < s.size) {sz P L H : Int} (h : (k : Int) < sz) (h1 : (s[k].toNat : Int) < L ∨ H < (s[k].toNat : Int)) {r : Int × Int × Bool}
    (hg : M.go (sz - k).toNat k P L H ((bl s).drop k) = r) : r = (65533, (k : Int), false) := by
  rw [← hg, bl_drop s k hk]
  obtain ⟨m, hm⟩ : ∃ m : Nat, (sz - k).toNat = m + 1 := ⟨(sz - k).toNat - 1, by omega⟩
  rw [hm]; simp only [M.go]; rw [if_pos h1]
theorem go_end {s : ByteArray} {k : Nat} (hk : k = s.size) {sz P L H : Int} (h : (k : Int) < sz) {r : Int × Int × Bool}
    (hg : M.go (sz - k).toNat k P L H ((bl s).drop k) = r) : r = (65533, (k : Int), true) := by
  rw [← hg, List.drop_of_length_le (by rw [bl_len]; omega)]
  obtain ⟨m, hm⟩ : ∃ m : Nat, (sz - k).toNat = m + 1 := ⟨(sz - k).toNat - 1, by omega⟩
  rw [hm]; simp only [M.go]
theorem go_done {s : ByteArray} {k : Nat} {sz P L H : Int} (h : (k : Int) = sz) {r : Int × Int × Bool}
    (hg : M.go (sz - k).toNat k P L H ((bl s).drop k) = r) : r = (P, sz, false) := by
  rw [← hg, show (sz - k).toNat = 0 from by omega]; simp only [M.go]; rw [h]

theorem or64 (P c : Int) (h1 : 0 ≤ P) (h2 : P < 1125899906842624) (h3 : 0 ≤ c) : bits .or .i64 (P * 64) (c % 64) = P * 64 + c % 64 :=
  bits_join .i64 62 (by decide) (fun n h h' => by rw [IntKind.wrap_i64]; omega) 6 (P * 64) (c % 64) (by omega) (by omega) (by omega) (by omega) (by omega) (by omega)
theorem hide {p : Prop} (h : p) : Hid p := h
theorem unhide {p : Prop} (h : Hid p) : p := h
theorem b_next {w w1 : World} {o o' : Obj} {nq : Nat} (x y z : Value) (hb : Below (w.alloc o).heap.size (w.alloc o) w1) :
    Below w.heap.size w (((((w1.alloc o').drewN nq).setCell ⟨w.heap.size, 0, none⟩ x).setCell ⟨w.heap.size, 1, none⟩ y).setCell ⟨w.heap.size, 2, none⟩ z) := by
  have h1 := ((Below.refl w.heap.size w).alloc (Nat.le_refl _) o).trans (hb.mono (by simp))
  exact (((below_drewN (h1.alloc h1.size o') nq).setCell (Nat.le_refl _) x).setCell (Nat.le_refl _) y).setCell (Nat.le_refl _) z

theorem b_next' {w w1 : World} {o o' : Obj} (x y z : Value) (hb : Below (w.alloc o).heap.size (w.alloc o) w1) :
    Below w.heap.size w ((((w1.setCell ⟨w.heap.size, 0, none⟩ x).setCell ⟨w.heap.size, 1, none⟩ y).setCell ⟨w.heap.size, 2, none⟩ z).alloc o') := by
  have h1 := ((Below.refl w.heap.size w).alloc (Nat.le_refl _) o).trans (hb.mono (by simp))
  have h2 := ((h1.setCell (p := ⟨w.heap.size, 0, none⟩) (Nat.le_refl _) x).setCell (p := ⟨w.heap.size, 1, none⟩) (Nat.le_refl _) y).setCell (p := ⟨w.heap.size, 2, none⟩) (Nat.le_refl _) z
  exact h2.alloc h2.size o'

/-- What a loop's round of next knows. -/
def InN (s : ByteArray) (sz : Int) (k : Nat) (P L H : Int) : Prop := M.go (sz - k).toNat k P L H ((bl s).drop k) = M.nxt (bl s)

set_option maxHeartbeats 400000 in
set_option maxRecDepth 100000 in
theorem next_none (s : ByteArray) (w : World) (h0 : 0 < s.size) (hs : s.size ≤ 3000) (hz0 : M.bSize s[0].toNat = 0) :
    Calls Try.prog 31 #[.string s] w fun e w' => e = .returned (.agg #[.int .i64 (M.nxt (bl s)).1, .int .i64 (M.nxt (bl s)).2.1, .bool (M.nxt (bl s)).2.2]) ∧ Below w.heap.size w w' := by
  have hc : (s[0].toNat : Int) < 256 := by have := s[0].toNat_lt; omega
  have HR := hide (nxt_zero s h0 hz0)
  have hsz : (M.bSize s[0].toNat == 0) = true := by simp [hz0]
  clear hz0
  go_enter Try.func31, Try.ntmps31
  go_wp2_with fail
  refine (begin_any _ (by omega) (by omega) _).mono ?_
  rintro e w1 ⟨rfl, hb⟩
  obtain ⟨hcl, hfz⟩ := bcell hb
  have hz : w.heap.size + 1 ≤ w1.heap.size := by have := hb.size; simp at this; omega
  have c0 : w1.cell? ⟨w.heap.size, 0, none⟩ = some (.int .i64 0) := by rw [hcl _ _ (by simp)]; simp
  have c1 : w1.cell? ⟨w.heap.size, 1, none⟩ = some (.int .i64 0) := by rw [hcl _ _ (by simp)]; simp
  have c2 : w1.cell? ⟨w.heap.size, 2, none⟩ = some (.bool false) := by rw [hcl _ _ (by simp)]; simp
  have f0 : w1.frozen? ⟨w.heap.size, 0, none⟩ = false := by rw [hfz _ _ (by simp)]; simp
  have f1 : w1.frozen? ⟨w.heap.size, 1, none⟩ = false := by rw [hfz _ _ (by simp)]; simp
  have f2 : w1.frozen? ⟨w.heap.size, 2, none⟩ = false := by rw [hfz _ _ (by simp)]; simp
  have hzz : w.heap.size < w1.heap.size := by omega
  clear hcl hfz
  clear hc
  go_wp2
  refine bodyPost_ret (v := .agg #[.int .i64 65533, .int .i64 1, .bool false]) (by simp [results, Try.results31, go_sem, c0, c1, c2, hzz]) rfl ⟨?_, ?_⟩
  · rw [unhide HR]
  · exact b_next' _ _ _ hb

set_option maxHeartbeats 400000 in
set_option maxRecDepth 100000 in
theorem next_any (s : ByteArray) (w : World) (h0 : 0 < s.size) (hs : s.size ≤ 3000) :
    Calls Try.prog 31 #[.string s] w fun e w' => e = .returned (.agg #[.int .i64 (M.nxt (bl s)).1, .int .i64 (M.nxt (bl s)).2.1, .bool (M.nxt (bl s)).2.2]) ∧ Below w.heap.size w w' := by
  have hc : (s[0].toNat : Int) < 256 := by have := s[0].toNat_lt; omega
  by_cases hz0 : M.bSize s[0].toNat = 0
  · exact next_none s w h0 hs hz0
  have hbd := M.bSize_bd s[0].toNat
  have HS : InN s (M.bSize s[0].toNat) 1 (M.bBits s[0].toNat) (M.bLow s[0].toNat) (M.bHigh s[0].toNat) := nxt_start s h0 hz0
  have hbits : 0 ≤ M.bBits s[0].toNat ∧ M.bBits s[0].toNat < 128 := by unfold M.bBits; omega
  go_enter Try.func31, Try.ntmps31
  go_wp2_with fail
  refine (begin_any _ (by omega) (by omega) _).mono ?_
  rintro e w1 ⟨rfl, hb⟩
  obtain ⟨hcl, hfz⟩ := bcell hb
  have hz : w.heap.size + 1 ≤ w1.heap.size := by have := hb.size; simp at this; omega
  have c0 : w1.cell? ⟨w.heap.size, 0, none⟩ = some (.int .i64 0) := by rw [hcl _ _ (by simp)]; simp
  have c1 : w1.cell? ⟨w.heap.size, 1, none⟩ = some (.int .i64 0) := by rw [hcl _ _ (by simp)]; simp
  have c2 : w1.cell? ⟨w.heap.size, 2, none⟩ = some (.bool false) := by rw [hcl _ _ (by simp)]; simp
  have f0 : w1.frozen? ⟨w.heap.size, 0, none⟩ = false := by rw [hfz _ _ (by simp)]; simp
  have f1 : w1.frozen? ⟨w.heap.size, 1, none⟩ = false := by rw [hfz _ _ (by simp)]; simp
  have f2 : w1.frozen? ⟨w.heap.size, 2, none⟩ = false := by rw [hfz _ _ (by simp)]; simp
  have hzz : w.heap.size < w1.heap.size := by omega
  clear hcl hfz
  clear hc
  generalize M.bSize s[0].toNat = sz at *
  generalize M.bBits s[0].toNat = bits at *
  generalize M.bLow s[0].toNat = low at *
  generalize M.bHigh s[0].toNat = high at *
  have hsz : (sz == 0) = false := by simp; omega
  have hsz' : 1 ≤ sz := by omega
  go_wp2_with fail
  go_quiet (fail)
  go_wp2_with fail
  clear hsz hz0 
  go_loop [4, 5, 6, 7] (fun p lo hi i => ∃ (k : Nat) (P L H : Int), 1 ≤ k ∧ (k : Int) ≤ sz ∧ k ≤ s.size ∧ i = .int .i64 k ∧ p = .int .i64 P ∧ lo = .int .u8 L ∧ hi = .int .u8 H ∧ 0 ≤ P ∧ ((k = 1 ∧ P < 128) ∨ (k = 2 ∧ P < 8192) ∨ (k = 3 ∧ P < 524288) ∨ (k = 4 ∧ P < 33554432)) ∧ InN s sz k P L H) (fun _ _ _ i => 5 - (intOf i).toNat)
  case atStart => exact ⟨1, bits, low, high, by omega, by omega, by omega, rfl, rfl, rfl, rfl, by omega, by omega, HS⟩
  case round =>
    obtain ⟨k, P, L, H, hk1, hk2, hk3, rfl, rfl, rfl, rfl, hP, hP2, HN⟩ := hrel
    clear HS
    by_cases hlt : (k : Int) < sz
    · by_cases he : k = s.size
      · have he' : ((k : Int) == (s.size : Int)) = true := by simp [he]
        have HR : M.nxt (bl s) = (65533, (k : Int), true) := go_end he hlt HN
        have HR' := hide HR
        clear HR
        go_wp2
        refine bodyPost_ret (v := .agg #[.int .i64 65533, .int .i64 (s.size : Int), .bool true]) (by simp [results, Try.results31, go_sem, c0, c1, c2, hzz]) rfl ⟨?_, ?_⟩
        · rw [unhide HR', he]
        · exact b_next _ _ _ hb
      · have he' : ((k : Int) == (s.size : Int)) = false := by simp; omega
        have hks : k < s.size := by omega
        have hby : (s[k].toNat : Int) < 256 := by have := s[k].toNat_lt; omega
        by_cases hl : (s[k].toNat : Int) < L ∨ H < (s[k].toNat : Int)
        · have HR := hide (go_bad hks hlt hl HN)
          rcases hl with hl | hl
          · go_wp2
            refine bodyPost_ret (v := .agg #[.int .i64 65533, .int .i64 (k : Int), .bool false]) (by simp [results, Try.results31, go_sem, c0, c1, c2, hzz]) rfl ⟨?_, ?_⟩
            · rw [unhide HR]
            · exact b_next _ _ _ hb
          · by_cases hl3 : (s[k].toNat : Int) < L
            all_goals
              go_wp2
              refine bodyPost_ret (v := .agg #[.int .i64 65533, .int .i64 (k : Int), .bool false]) (by simp [results, Try.results31, go_sem, c0, c1, c2, hzz]) rfl ⟨?_, ?_⟩
              · rw [unhide HR]
              · exact b_next _ _ _ hb
        · have hl1 : ¬ (s[k].toNat : Int) < L := by omega
          have hl2 : ¬ H < (s[k].toNat : Int) := by omega
          have hPs : P < 524288 := by omega
          clear hl
          have HO := or64 P (s[k].toNat) hP (by omega) (by omega)
          have HN' : InN s sz (k + 1) (P * 64 + s[k].toNat % 64) 128 191 := go_step hks hlt (by omega) (by omega) HN
          go_wp2
          go_round
          case rel => exact ⟨k + 1, P * 64 + s[k].toNat % 64, 128, 191, by omega, by omega, by omega, by go_num, rfl, rfl, rfl, by omega, by omega, HN'⟩
          case measure => simp [intOf]; omega
    · have HR := hide (go_done (by omega) HN)
      go_wp2
      refine bodyPost_ret (v := .agg #[.int .i64 P, .int .i64 sz, .bool false]) (by simp [results, Try.results31, go_sem, c0, c1, c2, hzz]) rfl ⟨?_, ?_⟩
      · rw [unhide HR]
      · exact b_next _ _ _ hb
end Go.Proofs.Ythhjfedegbldfaa
