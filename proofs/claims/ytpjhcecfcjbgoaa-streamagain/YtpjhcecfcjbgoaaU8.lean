/- The contracts of utf8.begin, next, walk, Decode and Split: each returns what the plain function of its name computes; nothing that was there is written. Condition: at most 3000 bytes, else ErrMany. -/
import Derived.Test.YtpjhcecfcjbgoaaBase
import Derived.WalkKit
import Derived.ProofKit
import Derived.BigQuiet
import Derived.Deep.QuietTactic
import Derived.WalkSmall
import Derived.Laws.BitsLemmas
namespace Go.Proofs.Ytpjhcecfcjbgoaa
open Go.RowKit
set_option linter.unusedVariables false


theorem ret_start {a b c d a' b' c' d' : Int} (h1 : a = a') (h2 : b = b') (h3 : c = c') (h4 : d = d') :
    Ending.returned (.agg #[.int .i64 a, .int .i64 b, .int .u8 c, .int .u8 d]) = .returned (.agg #[.int .i64 a', .int .i64 b', .int .u8 c', .int .u8 d']) := by
  rw [h1, h2, h3, h4]

set_option maxHeartbeats 1000000 in
theorem begin_any (c : Int) (h0 : 0 ≤ c) (h1 : c ≤ 255) (w : World) :
    Calls Try.prog 51 #[.int .u8 c] w fun e w' => e = .returned (.agg #[.int .i64 (M.bSize c), .int .i64 (M.bBits c), .int .u8 (M.bLow c), .int .u8 (M.bHigh c)]) ∧ Below w.heap.size w w' := by
  rcases (show (c < 128) ∨ (128 ≤ c ∧ c < 194) ∨ (194 ≤ c ∧ c < 224) ∨ c = 224 ∨ c = 237 ∨ (224 < c ∧ c < 237) ∨ (237 < c ∧ c < 240) ∨ c = 240 ∨ (240 < c ∧ c < 244) ∨ c = 244 ∨ 244 < c from by omega) with h | ⟨h, h'⟩ | ⟨h, h'⟩ | h | h | ⟨h, h'⟩ | ⟨h, h'⟩ | h | ⟨h, h'⟩ | h | h
  all_goals (try subst h)
  all_goals
    go_enter Try.func51, Try.ntmps51
    go_wp2
    refine bodyPost_ret (by simp [results, Try.results51, go_sem]; exact ⟨rfl, rfl, rfl, rfl⟩) rfl ⟨ret_start ?_ ?_ ?_ ?_, (Below.refl _ _).alloc (Nat.le_refl _) _⟩
  all_goals simp only [M.bSize, M.bBits, M.bLow, M.bHigh]
  all_goals (repeat (first | rfl | omega | (rw [if_pos (by omega)]) | (rw [if_neg (by omega)])))


theorem nxt_zero (s : ByteArray) (h : 0 < s.size) (hz : M.bSize s[0].toNat = 0) : M.nxt (bl s) = (65533, 1, false) := by
  rw [bl_0 s h]; simp [M.nxt, hz]
theorem nxt_start (s : ByteArray) (h : 0 < s.size) (hz : ¬ M.bSize s[0].toNat = 0) :
    M.go (M.bSize s[0].toNat - 1).toNat 1 (M.bBits s[0].toNat) (M.bLow s[0].toNat) (M.bHigh s[0].toNat) ((bl s).drop 1) = M.nxt (bl s) := by
  conv => rhs; rw [bl_0 s h]
  simp [M.nxt, hz]
theorem go_step {s : ByteArray} {k : Nat} (hk : k < s.size) {sz P L H : Int} (h : (k : Int) < sz) (h1 : L ≤ s[k].toNat) (h2 : (s[k].toNat : Int) ≤ H) {r : Int × Int × Bool}
    (hg : M.go (sz - k).toNat k P L H ((bl s).drop k) = r) : M.go (sz - ((k + 1 : Nat) : Int)).toNat ((k + 1 : Nat) : Int) (P * 64 + s[k].toNat % 64) 128 191 ((bl s).drop (k + 1)) = r := by
  rw [← hg, bl_drop s k hk]
  obtain ⟨m, hm⟩ : ∃ m : Nat, (sz - k).toNat = m + 1 := ⟨(sz - k).toNat - 1, by omega⟩
  rw [hm, show (sz - ((k + 1 : Nat) : Int)).toNat = m from by omega]
  simp only [M.go]
  rw [if_neg (by omega)]
  simp
theorem go_bad {s : ByteArray} {k : Nat} (hk : k < s.size) {sz P L H : Int} (h : (k : Int) < sz) (h1 : (s[k].toNat : Int) < L ∨ H < (s[k].toNat : Int)) {r : Int × Int × Bool}
    (hg : M.go (sz - k).toNat k P L H ((bl s).drop k) = r) : r = (65533, (k : Int), false) := by
  rw [← hg, bl_drop s k hk]
  obtain ⟨m, hm⟩ : ∃ m : Nat, (sz - k).toNat = m + 1 := ⟨(sz - k).toNat - 1, by omega⟩
  rw [hm]; simp only [M.go]; rw [if_pos h1]
theorem go_end {s : ByteArray} {k : Nat} (hk : k = s.size) {sz P L H : Int} (h : (k : Int) < sz) {r : Int × Int × Bool}
    (hg : M.go (sz - k).toNat k P L H ((bl s).drop k) = r) : r = (65533, (k : Int), true) := by
  rw [← hg, List.drop_of_length_le (by rw [bl_len]; omega)]
  obtain ⟨m, hm⟩ : ∃ m : Nat, (sz - k).toNat = m + 1 := ⟨(sz - k).toNat - 1, by omega⟩
  rw [hm]; simp only [M.go]
theorem go_done {s : ByteArray} {k : Nat} {sz P L H : Int} (h : (k : Int) = sz) {r : Int × Int × Bool}
    (hg : M.go (sz - k).toNat k P L H ((bl s).drop k) = r) : r = (P, sz, false) := by
  rw [← hg, show (sz - k).toNat = 0 from by omega]; simp only [M.go]; rw [h]

theorem or64 (P c : Int) (h1 : 0 ≤ P) (h2 : P < 1125899906842624) (h3 : 0 ≤ c) : bits .or .i64 (P * 64) (c % 64) = P * 64 + c % 64 :=
  bits_join .i64 62 (by decide) (fun n h h' => by rw [IntKind.wrap_i64]; omega) 6 (P * 64) (c % 64) (by omega) (by omega) (by omega) (by omega) (by omega) (by omega)
theorem b_next {w w1 : World} {o o' : Obj} {nq : Nat} (x y z : Value) (hb : Below (w.alloc o).heap.size (w.alloc o) w1) :
    Below w.heap.size w (((((w1.alloc o').drewN nq).setCell ⟨w.heap.size, 0, none⟩ x).setCell ⟨w.heap.size, 1, none⟩ y).setCell ⟨w.heap.size, 2, none⟩ z) := by
  have h1 := ((Below.refl w.heap.size w).alloc (Nat.le_refl _) o).trans (hb.mono (by simp))
  exact (((below_drewN (h1.alloc h1.size o') nq).setCell (Nat.le_refl _) x).setCell (Nat.le_refl _) y).setCell (Nat.le_refl _) z

theorem b_next' {w w1 : World} {o o' : Obj} (x y z : Value) (hb : Below (w.alloc o).heap.size (w.alloc o) w1) :
    Below w.heap.size w ((((w1.setCell ⟨w.heap.size, 0, none⟩ x).setCell ⟨w.heap.size, 1, none⟩ y).setCell ⟨w.heap.size, 2, none⟩ z).alloc o') := by
  have h1 := ((Below.refl w.heap.size w).alloc (Nat.le_refl _) o).trans (hb.mono (by simp))
  have h2 := ((h1.setCell (p := ⟨w.heap.size, 0, none⟩) (Nat.le_refl _) x).setCell (p := ⟨w.heap.size, 1, none⟩) (Nat.le_refl _) y).setCell (p := ⟨w.heap.size, 2, none⟩) (Nat.le_refl _) z
  exact h2.alloc h2.size o'

/-- What a loop's round of next knows. -/
def InN (s : ByteArray) (sz : Int) (k : Nat) (P L H : Int) : Prop := M.go (sz - k).toNat k P L H ((bl s).drop k) = M.nxt (bl s)

set_option maxHeartbeats 400000 in
set_option maxRecDepth 100000 in
theorem next_none (s : ByteArray) (w : World) (h0 : 0 < s.size) (hs : s.size ≤ 3000) (hz0 : M.bSize s[0].toNat = 0) :
    Calls Try.prog 39 #[.string s] w fun e w' => e = .returned (.agg #[.int .i64 (M.nxt (bl s)).1, .int .i64 (M.nxt (bl s)).2.1, .bool (M.nxt (bl s)).2.2]) ∧ Below w.heap.size w w' := by
  have hc : (s[0].toNat : Int) < 256 := by have := s[0].toNat_lt; omega
  have HR := hide (nxt_zero s h0 hz0)
  have hsz : (M.bSize s[0].toNat == 0) = true := by simp [hz0]
  clear hz0
  go_enter Try.func39, Try.ntmps39
  go_wp2_with fail
  refine (begin_any _ (by omega) (by omega) _).mono ?_
  rintro e w1 ⟨rfl, hb⟩
  obtain ⟨hcl, hfz⟩ := bcell hb
  have hz : w.heap.size + 1 ≤ w1.heap.size := by have := hb.size; simp at this; omega
  have c0 : w1.cell? ⟨w.heap.size, 0, none⟩ = some (.int .i64 0) := by rw [hcl _ _ (by simp)]; simp
  have c1 : w1.cell? ⟨w.heap.size, 1, none⟩ = some (.int .i64 0) := by rw [hcl _ _ (by simp)]; simp
  have c2 : w1.cell? ⟨w.heap.size, 2, none⟩ = some (.bool false) := by rw [hcl _ _ (by simp)]; simp
  have f0 : w1.frozen? ⟨w.heap.size, 0, none⟩ = false := by rw [hfz _ _ (by simp)]; simp
  have f1 : w1.frozen? ⟨w.heap.size, 1, none⟩ = false := by rw [hfz _ _ (by simp)]; simp
  have f2 : w1.frozen? ⟨w.heap.size, 2, none⟩ = false := by rw [hfz _ _ (by simp)]; simp
  have hzz : w.heap.size < w1.heap.size := by omega
  clear hcl hfz
  clear hc
  go_wp2
  refine bodyPost_ret (v := .agg #[.int .i64 65533, .int .i64 1, .bool false]) (by simp [results, Try.results39, go_sem, c0, c1, c2, hzz]) rfl ⟨?_, ?_⟩
  · rw [unhide HR]
  · exact b_next' _ _ _ hb

set_option maxHeartbeats 400000 in
set_option maxRecDepth 100000 in
theorem next_any8 (s : ByteArray) (w : World) (h0 : 0 < s.size) (hs : s.size ≤ 3000) :
    Calls Try.prog 39 #[.string s] w fun e w' => e = .returned (.agg #[.int .i64 (M.nxt (bl s)).1, .int .i64 (M.nxt (bl s)).2.1, .bool (M.nxt (bl s)).2.2]) ∧ Below w.heap.size w w' := by
  have hc : (s[0].toNat : Int) < 256 := by have := s[0].toNat_lt; omega
  by_cases hz0 : M.bSize s[0].toNat = 0
  · exact next_none s w h0 hs hz0
  have hbd := M.bSize_bd s[0].toNat
  have HS : InN s (M.bSize s[0].toNat) 1 (M.bBits s[0].toNat) (M.bLow s[0].toNat) (M.bHigh s[0].toNat) := nxt_start s h0 hz0
  have hbits : 0 ≤ M.bBits s[0].toNat ∧ M.bBits s[0].toNat < 128 := by unfold M.bBits; omega
  go_enter Try.func39, Try.ntmps39
  go_wp2_with fail
  refine (begin_any _ (by omega) (by omega) _).mono ?_
  rintro e w1 ⟨rfl, hb⟩
  obtain ⟨hcl, hfz⟩ := bcell hb
  have hz : w.heap.size + 1 ≤ w1.heap.size := by have := hb.size; simp at this; omega
  have c0 : w1.cell? ⟨w.heap.size, 0, none⟩ = some (.int .i64 0) := by rw [hcl _ _ (by simp)]; simp
  have c1 : w1.cell? ⟨w.heap.size, 1, none⟩ = some (.int .i64 0) := by rw [hcl _ _ (by simp)]; simp
  have c2 : w1.cell? ⟨w.heap.size, 2, none⟩ = some (.bool false) := by rw [hcl _ _ (by simp)]; simp
  have f0 : w1.frozen? ⟨w.heap.size, 0, none⟩ = false := by rw [hfz _ _ (by simp)]; simp
  have f1 : w1.frozen? ⟨w.heap.size, 1, none⟩ = false := by rw [hfz _ _ (by simp)]; simp
  have f2 : w1.frozen? ⟨w.heap.size, 2, none⟩ = false := by rw [hfz _ _ (by simp)]; simp
  have hzz : w.heap.size < w1.heap.size := by omega
  clear hcl hfz
  clear hc
  generalize M.bSize s[0].toNat = sz at *
  generalize M.bBits s[0].toNat = bits at *
  generalize M.bLow s[0].toNat = low at *
  generalize M.bHigh s[0].toNat = high at *
  have hsz : (sz == 0) = false := by simp; omega
  have hsz' : 1 ≤ sz := by omega
  go_wp2_with fail
  go_quiet (fail)
  go_wp2_with fail
  clear hsz hz0 
  go_loop [4, 5, 6, 7] (fun p lo hi i => ∃ (k : Nat) (P L H : Int), 1 ≤ k ∧ (k : Int) ≤ sz ∧ k ≤ s.size ∧ i = .int .i64 k ∧ p = .int .i64 P ∧ lo = .int .u8 L ∧ hi = .int .u8 H ∧ 0 ≤ P ∧ ((k = 1 ∧ P < 128) ∨ (k = 2 ∧ P < 8192) ∨ (k = 3 ∧ P < 524288) ∨ (k = 4 ∧ P < 33554432)) ∧ InN s sz k P L H) (fun _ _ _ i => 5 - (intOf i).toNat)
  case atStart => exact ⟨1, bits, low, high, by omega, by omega, by omega, rfl, rfl, rfl, rfl, by omega, by omega, HS⟩
  case round =>
    obtain ⟨k, P, L, H, hk1, hk2, hk3, rfl, rfl, rfl, rfl, hP, hP2, HN⟩ := hrel
    clear HS
    by_cases hlt : (k : Int) < sz
    · by_cases he : k = s.size
      · have he' : ((k : Int) == (s.size : Int)) = true := by simp [he]
        have HR : M.nxt (bl s) = (65533, (k : Int), true) := go_end he hlt HN
        have HR' := hide HR
        clear HR
        go_wp2
        refine bodyPost_ret (v := .agg #[.int .i64 65533, .int .i64 (s.size : Int), .bool true]) (by simp [results, Try.results39, go_sem, c0, c1, c2, hzz]) rfl ⟨?_, ?_⟩
        · rw [unhide HR', he]
        · exact b_next _ _ _ hb
      · have he' : ((k : Int) == (s.size : Int)) = false := by simp; omega
        have hks : k < s.size := by omega
        have hby : (s[k].toNat : Int) < 256 := by have := s[k].toNat_lt; omega
        by_cases hl : (s[k].toNat : Int) < L ∨ H < (s[k].toNat : Int)
        · have HR := hide (go_bad hks hlt hl HN)
          rcases hl with hl | hl
          · go_wp2
            refine bodyPost_ret (v := .agg #[.int .i64 65533, .int .i64 (k : Int), .bool false]) (by simp [results, Try.results39, go_sem, c0, c1, c2, hzz]) rfl ⟨?_, ?_⟩
            · rw [unhide HR]
            · exact b_next _ _ _ hb
          · by_cases hl3 : (s[k].toNat : Int) < L
            all_goals
              go_wp2
              refine bodyPost_ret (v := .agg #[.int .i64 65533, .int .i64 (k : Int), .bool false]) (by simp [results, Try.results39, go_sem, c0, c1, c2, hzz]) rfl ⟨?_, ?_⟩
              · rw [unhide HR]
              · exact b_next _ _ _ hb
        · have hl1 : ¬ (s[k].toNat : Int) < L := by omega
          have hl2 : ¬ H < (s[k].toNat : Int) := by omega
          have hPs : P < 524288 := by omega
          clear hl
          have HO := or64 P (s[k].toNat) hP (by omega) (by omega)
          have HN' : InN s sz (k + 1) (P * 64 + s[k].toNat % 64) 128 191 := go_step hks hlt (by omega) (by omega) HN
          go_wp2
          go_round
          case rel => exact ⟨k + 1, P * 64 + s[k].toNat % 64, 128, 191, by omega, by omega, by omega, by go_num, rfl, rfl, rfl, by omega, by omega, HN'⟩
          case measure => simp [intOf]; omega
    · have HR := hide (go_done (by omega) HN)
      go_wp2
      refine bodyPost_ret (v := .agg #[.int .i64 P, .int .i64 sz, .bool false]) (by simp [results, Try.results39, go_sem, c0, c1, c2, hzz]) rfl ⟨?_, ?_⟩
      · rw [unhide HR]
      · exact b_next _ _ _ hb


set_option maxHeartbeats 400000 in
set_option maxRecDepth 100000 in
theorem push_any (B base : Nat) (pt sz : Int) (op : Bool) (v : Value) (xs : List Int) (w : World) (hB : B < base) (hbase : base ≤ w.heap.size)
    (hv : w.heap[B]? = some (.cells #[v] 28 (0, 0))) (hown : w.ownsRow base 3 1 v xs.length (xs.map (Value.int .i64))) (hn : xs.length ≤ 3000) :
    Calls Try.prog 25 #[.agg #[.int .i64 pt, .int .i64 sz, .bool op], .pointer (some ⟨B, 0, none⟩)] w fun e w' => e = .returned (.tuple #[]) ∧
      ∃ v', w'.heap[B]? = some (.cells #[v'] 28 (0, 0)) ∧ w'.ownsRow base 3 1 v' (xs ++ [pt]).length ((xs ++ [pt]).map (Value.int .i64)) ∧ Below B w w' ∧ (∀ b, b < w.heap.size → b ≠ B → some b ≠ v.ownBlock → w'.heap[b]? = w.heap[b]?) := by
  have hc := cell_of_one hv
  have hf := free_of_one hv
  obtain ⟨i0, hi, hz0, hz1, hz2⟩ := info_parts info3
  have hlt : B < w.heap.size := by omega
  have HV := hide hv
  clear hv
  go_enter Try.func25, Try.ntmps25
  go_wp2_with (at_builtin; refine wpList_append_own _ rfl (.tmp 3) (.tmp 6) 28 rfl base 3 i0 (.int .i64 0) 1 8 Try.underlying28 hi hz0 hz1 hz2 rfl (by decide) _ _ _ rfl ((hown.alloc _).alloc _) ⟨w.heap.size + 1, 0, none⟩ 1 1 [.int .i64 pt] rfl rfl ?c1 ?c2 ?c3 ?c4 ?c5 ?_)
  case c1 =>
    intro j u hj
    match j, hj with
    | 0, hj => simp at hj; subst hj; simp [Addr.add]
  case c2 => intro u hu; simp at hu; subst hu; rfl
  case c3 => unfold maxLen; omega
  case c4 => omega
  case c5 => simp; omega
  intro v' w1 hown' hgrow _
  obtain ⟨ao', cap', rfl⟩ := owns_shape hown'
  have hne : some B ≠ v.ownBlock := fun e => by have := hown.lt B e.symm; omega
  have hv1 : w1.heap[B]? = some (.cells #[v] 28 (0, 0)) := by
    rw [hgrow.block B (by simp; omega) hne, Below.heap_alloc _ _ _ (by simp; omega), Below.heap_alloc _ _ _ hlt]
    exact unhide HV
  have hc1 := cell_of_one hv1
  have hf1 := free_of_one hv1
  have R1 := hide (one_setCell (u := .slice ao' (xs.length + 1) cap') hv1)
  have R2 := hide (ownsRow_setCell_below hown' (a := ⟨B, 0, none⟩) hB (.slice ao' (xs.length + 1) cap'))
  have R3 : Below B w (w1.setCell ⟨B, 0, none⟩ (.slice ao' (xs.length + 1) cap')) := by
    have h1 := (((Below.refl B w).alloc (by omega) (.cells #[.int .i64 pt, .int .i64 sz, .bool op] 50)).alloc (by simp; omega) (.cells #[.int .i64 pt] 3)).grown hgrow (by simp; omega) (fun k hk => by have := hown.lt k hk; omega)
    exact h1.setCell (Nat.le_refl _) _
  have R4 := hide (fun b (h1 : b < w.heap.size) (h2 : b ≠ B) (h3 : some b ≠ v.ownBlock) => show (w1.setCell ⟨B, 0, none⟩ (.slice ao' (xs.length + 1) cap')).heap[b]? = w.heap[b]? from by
    rw [Below.heap_setCell _ _ _ _ h2, hgrow.block b (by simp; omega) h3, Below.heap_alloc _ _ _ (by simp; omega), Below.heap_alloc _ _ _ h1])
  clear hc hf hv1 HV hown hown' hgrow
  go_wp2_with fail
  go_end0
  exact ⟨rfl, _, unhide R1, by simpa using unhide R2, R3, unhide R4⟩

/-- What a round of walk knows, the closure gathering code points in block B. -/
def InW8 (s : ByteArray) (B : Nat) (w wr : World) (k : Nat) (xs : List Int) (v : Value) : Prop :=
  wr.heap[B]? = some (.cells #[v] 28 (0, 0)) ∧ wr.ownsRow (B + 1) 3 1 v xs.length (xs.map (Value.int .i64)) ∧ Below B w wr ∧ B + 1 ≤ wr.heap.size ∧ xs.length ≤ k ∧ xs ++ M.dec ((bl s).drop k) = M.dec (bl s)

set_option maxHeartbeats 400000 in
set_option maxRecDepth 100000 in
theorem walk_dec (s : ByteArray) (B : Nat) (w : World) (hs : s.size ≤ 3000) (hv : w.heap[B]? = some (.cells #[.slice none 0 0] 28 (0, 0))) :
    Calls Try.prog 24 #[.string s, .func (Fn.func 25) #[] #[.pointer (some ⟨B, 0, none⟩)]] w fun e w' => e = .returned (.tuple #[]) ∧
      ∃ v', w'.heap[B]? = some (.cells #[v'] 28 (0, 0)) ∧ w'.ownsRow (B + 1) 3 1 v' (M.dec (bl s)).length ((M.dec (bl s)).map (Value.int .i64)) ∧ Below B w w' := by
  have hlt := lt_of_block hv
  have HI : InW8 s B w w 0 [] (.slice none 0 0) := ⟨hv, World.ownsRow_nil _ _ _ _, Below.refl _ _, by omega, Nat.le_refl _, by simp⟩
  clear hv
  go_enter Try.func24, Try.ntmps24
  go_wp2_with fail
  go_loopw [4] (fun i wr => ∃ (k : Nat) (xs : List Int) (v : Value), k ≤ s.size ∧ i = .int .i64 k ∧ InW8 s B w wr k xs v) (fun i _ => s.size - (intOf i).toNat)
  case atStart => exact ⟨0, [], _, by omega, rfl, HI⟩
  case round =>
    obtain ⟨k, xs, v, hk, rfl, hI⟩ := hrel
    clear HI
    by_cases hks : k < s.size
    · obtain ⟨hv, hown, hbel, hsz, hlen, heq⟩ := hI
      have HV := hide hv
      have HE := hide heq
      have HS := M.nxt_size' ((bl s).drop k) (by simp [bl_len]; omega)
      clear hv heq
      go_wp2_with fail
      refine (next_any8 (s.extract k s.size) _ (by simp; omega) (by simp; omega)).mono ?_
      rintro e w1 ⟨rfl, hb1⟩
      rw [bl_extract]
      obtain ⟨pt, sz, op, HN⟩ : ∃ pt sz op, Hid (M.nxt ((bl s).drop k) = (pt, sz, op)) := ⟨_, _, _, rfl⟩
      have hnn := hide (show (bl s).drop k ≠ [] from fun e => by have := congrArg List.length e; simp [bl_len] at this; omega)
      rw [unhide HN] at HS ⊢
      simp only [List.length_drop, bl_len] at HS
      go_wp2_with fail
      have hw1 := hb1.size
      have hv1 : w1.heap[B]? = some (.cells #[v] 28 (0, 0)) := (hb1.block B (by omega)).trans (unhide HV)
      have hown1 := owns_below hown hb1
      refine (push_any B (B + 1) pt sz op v xs _ (by omega) (by simp; omega) (by rw [Below.heap_alloc _ _ _ (by omega)]; exact hv1) (hown1.alloc _) (by omega)).mono ?_
      rintro e w2 ⟨rfl, v2, hv2, hown2, hbel2, hkeep⟩
      have hp : w2.heap[w1.heap.size]? = some (.cells #[.int .i64 pt, .int .i64 sz, .bool op] 50) := by
        rw [hkeep w1.heap.size (by simp) (by omega) (fun e => by have := hown.lt _ e.symm; omega)]
        exact heap_alloc_new _ _
      have hcp : w2.cell? ⟨w1.heap.size, 1, none⟩ = some (.int .i64 sz) := by simp [World.cell?, hp]
      have hz2 := hbel2.size
      simp at hz2
      have HI : InW8 s B w w2 (k + sz.toNat) (xs ++ [pt]) v2 := by
        refine ⟨hv2, hown2, ?_, by omega, by simp; omega, ?_⟩
        · exact (hbel.trans (hb1.mono (by omega))).trans (((Below.refl _ _).alloc (by omega) _).trans hbel2)
        · rw [← unhide HE, List.append_assoc]
          congr 1
          rw [← List.drop_drop]
          exact (M.dec_step _ HN hnn).symm
      clear hp hkeep hown1 hv1 hown2 hv2 hbel2
      go_wp2_with fail
      go_roundw
      case rel => exact ⟨k + sz.toNat, xs ++ [pt], v2, by omega, by go_num, HI⟩
      case measure => simp [intOf]; omega
    · go_wp2_with fail
      go_end0
      obtain ⟨h1, h2, h3, h4, h5, h6⟩ := hI
      rw [List.drop_of_length_le (by rw [bl_len]; omega)] at h6
      have e : xs = M.dec (bl s) := by rw [← h6]; simp [M.dec, M.pieces_nil]
      subst e
      exact ⟨rfl, v, h1, h2, h3⟩


set_option maxHeartbeats 400000 in
set_option maxRecDepth 100000 in
theorem dec1_any (s : ByteArray) (w : World) (hs : s.size ≤ 3000) :
    Calls Try.prog 23 #[.string s] w fun e w' => ∃ v, e = .returned v ∧ Ints w' v (M.dec (bl s)) ∧ Below w.heap.size w w' := by
  go_enter Try.func23, Try.ntmps23
  go_wp2_with fail
  refine (walk_dec s w.heap.size _ hs (heap_alloc_new _ _)).mono ?_
  rintro e w1 ⟨rfl, v', hv, hown, hbel⟩
  have hI := Ints.of_owns hown
  have hc := cell_of_one hv
  obtain ⟨ao, cap, hsh⟩ := owns_shape hown
  subst hsh
  have hb := hide (((Below.refl w.heap.size w).alloc (Nat.le_refl _) (.cells #[.slice none 0 0] 28)).trans hbel)
  clear hv hown hbel
  go_wp2_with fail
  go_ret
  exact ⟨_, rfl, hI, unhide hb⟩

set_option maxHeartbeats 400000 in
set_option maxRecDepth 100000 in
theorem decode_any (s : ByteArray) (w : World) (hs : s.size ≤ 3000) :
    Calls Try.prog 13 #[.string s] w fun e w' => ∃ v, e = .returned (.tuple #[v, .int .i64 0]) ∧ Ints w' v (M.dec (bl s)) ∧ Below w.heap.size w w' := by
  go_enter Try.func13, Try.ntmps13
  go_wp2_with (first | (go_at_call 23; refine (dec1_any _ _ hs).mono ?_; rintro e w1 ⟨v, rfl, hI, hb⟩; have HI := hide hI; have HB := hide hb; obtain ⟨ao, cap, rfl, _⟩ := hI; clear hb) | go_in)
  go_ret2
  exact ⟨_, rfl, unhide HI, unhide HB⟩

set_option maxHeartbeats 400000 in
set_option maxRecDepth 100000 in
theorem decode_long (s : ByteArray) (w : World) (hs : 3000 < s.size) (hm : s.size ≤ maxLen) :
    Calls Try.prog 13 #[.string s] w fun e w' => e = .returned (.tuple #[.slice none 0 0, .int .i64 2]) ∧ w' = w := by
  unfold maxLen at hm
  go_enter Try.func13, Try.ntmps13
  go_wp2
  go_ret2
  exact ⟨rfl, rfl⟩


namespace M
def pick (a : Int) (p : Int × Int × Bool) : Int := if p.2.2 then p.2.1 else a
theorem lft_step {pt sz : Int} {op : Bool} (n : Int) (l : List Int) (h : nxt l = (pt, sz, op)) (hn : l ≠ []) :
    (pieces l).foldl pick n = (pieces (l.drop sz.toNat)).foldl pick (if op then sz else n) := by
  rw [pieces_ne hn, h]
  rfl
theorem spl_eq (l : List Int) : spl l = (pieces l).foldl pick 0 := rfl
end M

set_option maxHeartbeats 400000 in
set_option maxRecDepth 100000 in
theorem set_any (B : Nat) (pt sz n : Int) (op : Bool) (w : World) (hv : w.heap[B]? = some (.cells #[.int .i64 n] 3 (0, 0))) :
    Calls Try.prog 48 #[.agg #[.int .i64 pt, .int .i64 sz, .bool op], .pointer (some ⟨B, 0, none⟩)] w fun e w' => e = .returned (.tuple #[]) ∧
      w'.heap[B]? = some (.cells #[.int .i64 (if op then sz else n)] 3 (0, 0)) ∧ Below B w w' ∧ (∀ b, b < w.heap.size → b ≠ B → w'.heap[b]? = w.heap[b]?) := by
  have hc := cell_of_one hv
  have hf := free_of_one hv
  have hlt := lt_of_block hv
  have HV := hide hv
  have hv1 : (w.alloc (.cells #[.int .i64 pt, .int .i64 sz, .bool op] 50)).heap[B]? = some (.cells #[.int .i64 n] 3 (0, 0)) := by rw [Below.heap_alloc _ _ _ hlt]; exact hv
  have HA := hide hv1
  clear hv hv1
  cases op
  · go_enter Try.func48, Try.ntmps48
    go_wp2
    go_end0
    exact ⟨rfl, unhide HA, (Below.refl _ _).alloc (by omega) _, fun b h1 h2 => Below.heap_alloc _ _ _ h1⟩
  · go_enter Try.func48, Try.ntmps48
    go_wp2
    go_end0
    have hz : (w.setCell ⟨B, 0, none⟩ (.int .i64 sz)).heap.size = w.heap.size := by simp [World.setCell]
    exact ⟨rfl, (Below.heap_alloc _ _ _ (by omega)).trans (one_setCell (unhide HV)), ((Below.refl B w).setCell (p := ⟨B, 0, none⟩) (Nat.le_refl _) (.int .i64 sz)).alloc (by omega) _, fun b h1 h2 => (Below.heap_alloc _ _ _ (by omega)).trans (Below.heap_setCell _ _ _ _ h2)⟩

/-- What a round of walk knows, the closure keeping a number in block B. -/
def InS8 (s : ByteArray) (B : Nat) (w wr : World) (k : Nat) (n : Int) : Prop :=
  wr.heap[B]? = some (.cells #[.int .i64 n] 3 (0, 0)) ∧ Below B w wr ∧ B + 1 ≤ wr.heap.size ∧ (M.pieces ((bl s).drop k)).foldl M.pick n = M.spl (bl s)

set_option maxHeartbeats 400000 in
set_option maxRecDepth 100000 in
theorem walk_spl (s : ByteArray) (B : Nat) (w : World) (hs : s.size ≤ 3000) (hv : w.heap[B]? = some (.cells #[.int .i64 0] 3 (0, 0))) :
    Calls Try.prog 24 #[.string s, .func (Fn.func 48) #[] #[.pointer (some ⟨B, 0, none⟩)]] w fun e w' => e = .returned (.tuple #[]) ∧
      w'.heap[B]? = some (.cells #[.int .i64 (M.spl (bl s))] 3 (0, 0)) ∧ Below B w w' := by
  have hlt := lt_of_block hv
  have HI : InS8 s B w w 0 0 := ⟨hv, Below.refl _ _, by omega, by simp [M.spl_eq]⟩
  clear hv
  go_enter Try.func24, Try.ntmps24
  go_wp2_with fail
  go_loopw [4] (fun i wr => ∃ (k : Nat) (n : Int), k ≤ s.size ∧ i = .int .i64 k ∧ InS8 s B w wr k n) (fun i _ => s.size - (intOf i).toNat)
  case atStart => exact ⟨0, _, by omega, rfl, HI⟩
  case round =>
    obtain ⟨k, n, hk, rfl, hI⟩ := hrel
    clear HI
    by_cases hks : k < s.size
    · obtain ⟨hv, hbel, hsz, heq⟩ := hI
      have HV := hide hv
      have HE := hide heq
      have HS := M.nxt_size' ((bl s).drop k) (by simp [bl_len]; omega)
      clear hv heq
      go_wp2_with fail
      refine (next_any8 (s.extract k s.size) _ (by simp; omega) (by simp; omega)).mono ?_
      rintro e w1 ⟨rfl, hb1⟩
      rw [bl_extract]
      obtain ⟨pt, sz, op, HN⟩ : ∃ pt sz op, Hid (M.nxt ((bl s).drop k) = (pt, sz, op)) := ⟨_, _, _, rfl⟩
      have hnn := hide (show (bl s).drop k ≠ [] from fun e => by have := congrArg List.length e; simp [bl_len] at this; omega)
      rw [unhide HN] at HS ⊢
      simp only [List.length_drop, bl_len] at HS
      go_wp2_with fail
      have hw1 := hb1.size
      have hv1 : w1.heap[B]? = some (.cells #[.int .i64 n] 3 (0, 0)) := (hb1.block B (by omega)).trans (unhide HV)
      refine (set_any B pt sz n op _ (by rw [Below.heap_alloc _ _ _ (by omega)]; exact hv1)).mono ?_
      rintro e w2 ⟨rfl, hv2, hbel2, hkeep⟩
      have hp : w2.heap[w1.heap.size]? = some (.cells #[.int .i64 pt, .int .i64 sz, .bool op] 50) := by
        rw [hkeep w1.heap.size (by simp) (by omega)]
        exact heap_alloc_new _ _
      have hcp : w2.cell? ⟨w1.heap.size, 1, none⟩ = some (.int .i64 sz) := by simp [World.cell?, hp]
      have hz2 := hbel2.size
      simp at hz2
      have HI : InS8 s B w w2 (k + sz.toNat) (if op then sz else n) := by
        refine ⟨hv2, ?_, by omega, ?_⟩
        · exact (hbel.trans (hb1.mono (by omega))).trans (((Below.refl _ _).alloc (by omega) _).trans hbel2)
        · rw [← unhide HE, ← List.drop_drop]
          exact (M.lft_step n _ (unhide HN) (unhide hnn)).symm
      clear hp hkeep hv1 hv2 hbel2
      go_wp2_with fail
      go_roundw
      case rel => exact ⟨k + sz.toNat, _, by omega, by go_num, HI⟩
      case measure => simp [intOf]; omega
    · go_wp2_with fail
      go_end0
      obtain ⟨h1, h3, h4, h6⟩ := hI
      rw [List.drop_of_length_le (by rw [bl_len]; omega)] at h6
      have e : n = M.spl (bl s) := by rw [← h6]; simp [M.pieces_nil]
      subst e
      exact ⟨rfl, h1, h3⟩

set_option maxHeartbeats 400000 in
set_option maxRecDepth 100000 in
theorem spl1_any (s : ByteArray) (w : World) (hs : s.size ≤ 3000) :
    Calls Try.prog 47 #[.string s] w fun e w' => e = .returned (.int .i64 (M.spl (bl s))) ∧ Below w.heap.size w w' := by
  go_enter Try.func47, Try.ntmps47
  go_wp2_with fail
  refine (walk_spl s w.heap.size _ hs (heap_alloc_new _ _)).mono ?_
  rintro e w1 ⟨rfl, hv, hbel⟩
  have hc := cell_of_one hv
  have hb := hide (((Below.refl w.heap.size w).alloc (Nat.le_refl _) (.cells #[.int .i64 0] 3)).trans hbel)
  clear hv hbel
  go_wp2_with fail
  go_ret
  exact ⟨rfl, unhide hb⟩

set_option maxHeartbeats 400000 in
set_option maxRecDepth 100000 in
theorem split_any (s : ByteArray) (w : World) (hs : s.size ≤ 3000) :
    Calls Try.prog 35 #[.string s] w fun e w' => e = .returned (.tuple #[.int .i64 (M.spl (bl s)), .int .i64 0]) ∧ Below w.heap.size w w' := by
  go_enter Try.func35, Try.ntmps35
  go_wp2_with (first | (go_at_call 47; refine (spl1_any _ _ hs).mono ?_; rintro e w1 ⟨rfl, hb⟩) | go_in)
  go_ret2
  exact ⟨rfl, by assumption⟩

set_option maxHeartbeats 400000 in
set_option maxRecDepth 100000 in
theorem split_long (s : ByteArray) (w : World) (hs : 3000 < s.size) (hm : s.size ≤ maxLen) :
    Calls Try.prog 35 #[.string s] w fun e w' => e = .returned (.tuple #[.int .i64 0, .int .i64 2]) ∧ w' = w := by
  unfold maxLen at hm
  go_enter Try.func35, Try.ntmps35
  go_wp2
  go_ret2
  exact ⟨rfl, rfl⟩

end Go.Proofs.Ytpjhcecfcjbgoaa
