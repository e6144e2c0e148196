/- The contract of utf16.Encode: errors as of utf8.Encode, else the units of each scalar, byte by byte, and OK; nothing that was there is written. -/
import Derived.Test.YthhjfedegbldfabEnc8
import Derived.Test.YthhjfedegbldfabMathU
namespace Go.Proofs.Ythhjfedegbldfab
open Go.RowKit
set_option linter.unusedVariables false

theorem and1023 (x : Int) (h0 : 0 ≤ x) (h1 : x < 2 ^ 62) : bits .and .i64 x 1023 = x % 1024 :=
  bits_mask .i64 62 (by decide) (fun n h h' => by rw [IntKind.wrap_i64]; omega) 10 (by decide) x h0 h1

/-- What the closure's callers know: block G holds whether the greater byte is first, block B the bytes so far. -/
def Enc16 (big : Bool) (G B : Nat) (w : World) (v : Value) (xs : List Int) : Prop :=
  G < B ∧ B < w.heap.size ∧ w.cell? ⟨G, 0, none⟩ = some (.bool big) ∧ w.heap[B]? = some (.cells #[v] 44 (0, 0)) ∧ w.ownsRow (B + 1) 5 1 v xs.length (xs.map (Value.int .u8))

set_option maxHeartbeats 400000 in
set_option maxRecDepth 100000 in
theorem put16_any (big : Bool) (G B : Nat) (u : Int) (v : Value) (xs : List Int) (w : World) (h : Enc16 big G B w v xs) (hn : xs.length ≤ 12010) (h0 : 0 ≤ u) (h1 : u < 65536) :
    Calls Try.prog 29 #[.int .i64 u, .pointer (some ⟨G, 0, none⟩), .pointer (some ⟨B, 0, none⟩)] w fun e w' => e = .returned (.tuple #[]) ∧
      ∃ v', Enc16 big G B w' v' (xs ++ M.two big u) ∧ Below B w w' := by
  obtain ⟨hGB, hlt, hg, hv, hown⟩ := h
  have hc := cell_of_one hv
  have hf := free_of_one hv
  obtain ⟨i0, hi, hz0, hz1, hz2⟩ := info_parts info5
  have HV := hide hv
  have HG := hide hg
  clear hv
  cases big
  · go_enter Try.func29, Try.ntmps29
    go_wp2_with (at_builtin; refine wpList_append_own _ rfl (.tmp 13) (.tmp 19) 44 rfl (B + 1) 5 i0 (.int .u8 0) 1 1 Try.underlying44 hi hz0 hz1 hz2 rfl (by decide) _ _ _ rfl (hown.alloc _) ⟨w.heap.size, 0, none⟩ 2 2 [.int .u8 (u % 256), .int .u8 (u / 256)] rfl rfl ?c1 ?c2 ?c3 ?c4 ?c5 ?_)
    case c1 =>
      intro j x hj
      match j, hj with
      | 0, hj => simp at hj; subst hj; simp [Addr.add]
      | 1, hj => simp at hj; subst hj; simp [Addr.add]
    case c2 => intro x hx; simp at hx; rcases hx with rfl | rfl <;> rfl
    case c3 => unfold maxLen; omega
    case c4 => omega
    case c5 => simp; omega
    intro v' w1 hown' hgrow _
    obtain ⟨ao', cap', rfl⟩ := owns_shape hown'
    have hne : some B ≠ v.ownBlock := fun e => by have := hown.lt B e.symm; omega
    have hv1 : w1.heap[B]? = some (.cells #[v] 44 (0, 0)) := by
      rw [hgrow.block B (by simp; omega) hne, Below.heap_alloc _ _ _ hlt]
      exact unhide HV
    have hc1 := cell_of_one hv1
    have hf1 := free_of_one hv1
    have R1 := hide (one_setCell (u := .slice ao' (xs.length + 2) cap') hv1)
    have R2 := hide (ownsRow_setCell_below hown' (a := ⟨B, 0, none⟩) (Nat.lt_succ_self B) (.slice ao' (xs.length + 2) cap'))
    have R3 : Hid (Below B w (w1.setCell ⟨B, 0, none⟩ (.slice ao' (xs.length + 2) cap'))) := by
      have h1 := ((Below.refl B w).alloc (by omega) (.cells #[.int .u8 (u % 256), .int .u8 (u / 256)] 5)).grown hgrow (by simp; omega) (fun k hk => by have := hown.lt k hk; omega)
      exact h1.setCell (Nat.le_refl _) _
    clear hc hf hv1 HV hown hown' hgrow hg
    go_wp2_with fail
    go_end0
    have hsz := (unhide R3).size
    refine ⟨rfl, _, ⟨hGB, by omega, ((unhide R3).cell (p := ⟨G, 0, none⟩) hGB).trans (unhide HG), unhide R1, by simpa [M.two] using unhide R2⟩, unhide R3⟩
  · go_enter Try.func29, Try.ntmps29
    go_wp2_with (at_builtin; refine wpList_append_own _ rfl (.tmp 5) (.tmp 11) 44 rfl (B + 1) 5 i0 (.int .u8 0) 1 1 Try.underlying44 hi hz0 hz1 hz2 rfl (by decide) _ _ _ rfl (hown.alloc _) ⟨w.heap.size, 0, none⟩ 2 2 [.int .u8 (u / 256), .int .u8 (u % 256)] rfl rfl ?c1 ?c2 ?c3 ?c4 ?c5 ?_)
    case c1 =>
      intro j x hj
      match j, hj with
      | 0, hj => simp at hj; subst hj; simp [Addr.add]
      | 1, hj => simp at hj; subst hj; simp [Addr.add]
    case c2 => intro x hx; simp at hx; rcases hx with rfl | rfl <;> rfl
    case c3 => unfold maxLen; omega
    case c4 => omega
    case c5 => simp; omega
    intro v' w1 hown' hgrow _
    obtain ⟨ao', cap', rfl⟩ := owns_shape hown'
    have hne : some B ≠ v.ownBlock := fun e => by have := hown.lt B e.symm; omega
    have hv1 : w1.heap[B]? = some (.cells #[v] 44 (0, 0)) := by
      rw [hgrow.block B (by simp; omega) hne, Below.heap_alloc _ _ _ hlt]
      exact unhide HV
    have hc1 := cell_of_one hv1
    have hf1 := free_of_one hv1
    have R1 := hide (one_setCell (u := .slice ao' (xs.length + 2) cap') hv1)
    have R2 := hide (ownsRow_setCell_below hown' (a := ⟨B, 0, none⟩) (Nat.lt_succ_self B) (.slice ao' (xs.length + 2) cap'))
    have R3 : Hid (Below B w (w1.setCell ⟨B, 0, none⟩ (.slice ao' (xs.length + 2) cap'))) := by
      have h1 := ((Below.refl B w).alloc (by omega) (.cells #[.int .u8 (u / 256), .int .u8 (u % 256)] 5)).grown hgrow (by simp; omega) (fun k hk => by have := hown.lt k hk; omega)
      exact h1.setCell (Nat.le_refl _) _
    clear hc hf hv1 HV hown hown' hgrow hg
    go_wp2_with fail
    go_end0
    have hsz := (unhide R3).size
    refine ⟨rfl, _, ⟨hGB, by omega, ((unhide R3).cell (p := ⟨G, 0, none⟩) hGB).trans (unhide HG), unhide R1, by simpa [M.two] using unhide R2⟩, unhide R3⟩

set_option maxHeartbeats 400000 in
set_option maxRecDepth 100000 in
theorem putUnits_any (big : Bool) (G B : Nat) (n : Int) (v : Value) (xs : List Int) (w : World) (h : Enc16 big G B w v xs) (hn : xs.length ≤ 12000) (h0 : 0 ≤ n) (h1 : n ≤ 1114111) :
    Calls Try.prog 30 #[.int .i64 n, .func (Fn.func 29) #[] #[.pointer (some ⟨G, 0, none⟩), .pointer (some ⟨B, 0, none⟩)]] w fun e w' => e = .returned (.tuple #[]) ∧
      ∃ v', Enc16 big G B w' v' (xs ++ M.enc16a big n) ∧ Below B w w' := by
  by_cases hs : n < 65536
  · have HE : Hid (M.enc16a big n = M.two big n) := hide (by unfold M.enc16a; rw [if_pos hs])
    go_enter Try.func30, Try.ntmps30
    go_wp2_with fail
    refine (put16_any big G B n v xs _ h (by omega) h0 hs).mono ?_
    rintro e w1 ⟨rfl, v1, hE1, hb1⟩
    go_wp2_with fail
    refine bodyPost_ret (results_none rfl _ _ _) rfl ?_
    exact ⟨rfl, v1, by rw [unhide HE]; exact hE1, hb1⟩
  · have HE : Hid (M.enc16a big n = M.two big (55296 + (n - 65536) / 1024) ++ M.two big (56320 + (n - 65536) % 1024)) := hide (by unfold M.enc16a; rw [if_neg hs])
    have HA := and1023 (n - 65536) (by omega) (by omega)
    have HO := or_at 10 55296 ((n - 65536) / 1024) (by omega) (by omega) (by omega) (by omega) (by omega) (by omega)
    have HP := or_at 10 56320 ((n - 65536) % 1024) (by omega) (by omega) (by omega) (by omega) (by omega) (by omega)
    have hl := M.two_len big (55296 + (n - 65536) / 1024)
    go_enter Try.func30, Try.ntmps30
    go_wp2_with fail
    refine (put16_any big G B _ v xs _ h (by omega) (by omega) (by omega)).mono ?_
    rintro e w1 ⟨rfl, v1, hE1, hb1⟩
    go_wp2_with fail
    refine (put16_any big G B _ v1 _ _ hE1 (by simp; omega) (by omega) (by omega)).mono ?_
    rintro e w2 ⟨rfl, v2, hE2, hb2⟩
    go_wp2_with fail
    go_end0
    exact ⟨rfl, v2, by rw [unhide HE, ← List.append_assoc]; exact hE2, hb1.trans hb2⟩

/-- What Encode answers of at most 3000 integers. -/
def encRes16 (big : Bool) (xs : List Int) : Value := if xs.all M.sclr then .tuple #[.string (strOfNums (M.enc16 big xs)), .int .i64 0] else .tuple #[.string ⟨#[]⟩, .int .i64 3]
theorem encRes16_yes {big : Bool} {xs : List Int} (h : xs.all M.sclr = true) : encRes16 big xs = .tuple #[.string (strOfNums (M.enc16 big xs)), .int .i64 0] := by unfold encRes16; rw [if_pos h]
theorem encRes16_no {big : Bool} {xs : List Int} (h : xs.all M.sclr = false) : encRes16 big xs = .tuple #[.string ⟨#[]⟩, .int .i64 3] := by unfold encRes16; rw [if_neg (by simp [h])]

set_option maxHeartbeats 400000 in
set_option maxRecDepth 100000 in
theorem encode16_many (big : Bool) (ao : Option Addr) (len cap : Nat) (w : World) (h : 3000 < len) (hm : len ≤ maxLen) :
    Calls Try.prog 10 #[.bool big, .slice ao len cap] w fun e w' => e = .returned (.tuple #[.string ⟨#[]⟩, .int .i64 2]) ∧ Below w.heap.size w w' := by
  go_enter Try.func10, Try.ntmps10
  go_wp2_with fail
  refine (encode_many ao len cap _ h hm).mono ?_
  rintro e w1 ⟨rfl, hw⟩
  replace hw := hw.symm
  subst hw
  go_wp2_with fail
  go_ret2
  exact ⟨rfl, balloc _ _⟩

theorem all_at {xs : List Int} (h : xs.all M.sclr = true) {k : Nat} (hk : k < xs.length) : 0 ≤ xs.getD k 0 ∧ xs.getD k 0 ≤ 1114111 := by
  have := List.all_eq_true.1 h (xs.getD k 0) (by simp [hk])
  simp only [M.sclr, decide_eq_true_eq] at this
  exact ⟨this.1, this.2.1⟩

/-- What a round of Encode's loop knows. -/
def InV (big : Bool) (xs : List Int) (G B : Nat) (w wr : World) (k : Nat) : Prop :=
  ∃ v, Enc16 big G B wr v (M.enc16 big (xs.take k)) ∧ Below w.heap.size w wr

set_option maxHeartbeats 400000 in
set_option maxRecDepth 100000 in
theorem encode16_any (big : Bool) {v : Value} {xs : List Int} (w : World) (hx : Ints w v xs) (h : xs.length ≤ 3000) :
    Calls Try.prog 10 #[.bool big, v] w fun e w' => e = .returned (encRes16 big xs) ∧ Below w.heap.size w w' := by
  obtain ⟨ao, cap, rfl, hm, -, hc⟩ := id hx
  have HX := hide hx
  clear hx
  obtain ⟨q, HQ⟩ : ∃ q, Hid (xs.all M.sclr = q) := ⟨_, rfl⟩
  cases q
  · go_enter Try.func10, Try.ntmps10
    go_wp2_with fail
    refine (encode_any _ ((unhide HX).below (balloc _ _)) h).mono ?_
    rintro e w1 ⟨hb1, rfl⟩
    rw [encRes_no (unhide HQ)]
    go_wp2_with fail
    go_ret2
    exact ⟨by rw [encRes16_no (unhide HQ)]; rfl, bstep (balloc _ _) hb1⟩
  · go_enter Try.func10, Try.ntmps10
    go_wp2_with fail
    refine (encode_any _ ((unhide HX).below (balloc _ _)) h).mono ?_
    rintro e w1 ⟨hb1, rfl⟩
    rw [encRes_yes (unhide HQ)]
    have hg1 : w1.cell? ⟨w.heap.size, 0, none⟩ = some (.bool big) := (hb1.cell (p := ⟨w.heap.size, 0, none⟩) (by simp)).trans (by simp)
    have hz1 := hb1.size
    simp at hz1
    have HE : Hid (Enc16 big w.heap.size w1.heap.size (w1.alloc (.cells #[.slice none 0 0] 44)) (.slice none 0 0) []) :=
      ⟨by omega, by simp, ((balloc w1 _).cell (p := ⟨w.heap.size, 0, none⟩) (show w.heap.size < w1.heap.size by omega)).trans hg1, heap_alloc_new _ _, World.ownsRow_nil _ _ _ _⟩
    have HI : Hid (InV big xs w.heap.size w1.heap.size w (w1.alloc (.cells #[.slice none 0 0] 44)) 0) := ⟨_, unhide HE, bstep (bstep (balloc _ _) hb1) (balloc _ _)⟩
    clear HE
    generalize strOfNums (M.enc xs) = junk
    go_wp2_with fail
    go_loopw [23] (fun i wr => ∃ k : Nat, k ≤ xs.length ∧ i = .int .i64 k ∧ Hid (InV big xs w.heap.size w1.heap.size w wr k)) (fun i _ => xs.length - (intOf i).toNat)
    case atStart => exact ⟨0, by omega, rfl, HI⟩
    case round =>
      obtain ⟨k, hk, rfl, HJ⟩ := hrel
      clear HI
      obtain ⟨v2, hE, hb⟩ := unhide HJ
      by_cases hlt : k < xs.length
      · rcases hc with hc | ⟨b, off, rfl, hc⟩
        · subst hc; simp at hlt
        have hcell : wr.cell? ⟨b, off + k, none⟩ = some (.int .i64 (xs.getD k 0)) := (hb.cell (p := ⟨b, off + k, none⟩) (World.block_lt_of_cell? w _ (hc k hlt))).trans (hc k hlt)
        have hp := all_at (unhide HQ) hlt
        obtain ⟨p, HP⟩ : ∃ p, Hid (xs.getD k 0 = p) := ⟨_, rfl⟩
        rw [unhide HP] at hcell hp
        have hel := M.enc16_len big (xs.take k)
        have htl := List.length_take_le k xs
        have htk : (xs.take k).length = k := by rw [List.length_take]; omega
        have HC := hide hc
        clear hc
        go_wp2_with fail
        refine (putUnits_any big w.heap.size w1.heap.size p v2 _ _ hE (by omega) hp.1 hp.2).mono ?_
        rintro e w3 ⟨rfl, v3, hE3, hb3⟩
        have HI : Hid (InV big xs w.heap.size w1.heap.size w w3 (k + 1)) := by
          refine ⟨v3, ?_, hb.trans (hb3.mono (by omega))⟩
          rw [take_snoc xs k hlt, M.enc16_snoc, unhide HP]
          exact hE3
        clear hE hE3 hb hb3
        go_wp2_with fail
        go_roundw
        case rel => exact ⟨k + 1, by omega, by go_num, HI⟩
        case measure => simp [intOf]; omega
      · have ek : k = xs.length := by omega
        subst ek
        rw [List.take_length] at hE
        obtain ⟨e1, e2, e3, e4, e5⟩ := hE
        have hcv := conv_owned e5
        have hcl := cell_of_one e4
        obtain ⟨ao2, cap2, hsh⟩ := owns_shape e5
        subst hsh
        have HB := hide hb
        clear e3 e4 e5 hb
        go_wp2_with fail
        go_ret2
        exact ⟨by rw [encRes16_yes (unhide HQ)]; rfl, unhide HB⟩
end Go.Proofs.Ythhjfedegbldfab
