/- The contracts of mark.marks, first, Sniff, May and Put: each returns what the plain function of its name computes; nothing that was there is written. -/
import Derived.Test.YthhjfedegbldfadLN
import Derived.Test.YthhjfedegbldfadLC
import Derived.Test.YthhjfedegbldfadMathM
namespace Go.Proofs.Ythhjfedegbldfad
open Go.RowKit
set_option linter.unusedVariables false

/-- The marks: an encoding, and its bytes. -/
def mks : List (Int × ByteArray) := [(1, ⟨#[239, 187, 191]⟩), (3, ⟨#[254, 255]⟩), (2, ⟨#[255, 254]⟩)]
def fmk (q : Int × ByteArray → Bool) : List (Int × ByteArray) → Int × ByteArray
  | [] => (0, ⟨#[]⟩)
  | x :: t => if q x then x else fmk q t
/-- The marks lie at block b. -/
def MTab (w : World) (b : Nat) : Prop :=
  ∀ i (h : i < mks.length), w.cell? ⟨b, i * 2, none⟩ = some (.int .i64 mks[i].1) ∧ w.cell? ⟨b, i * 2 + 1, none⟩ = some (.string mks[i].2)

set_option maxHeartbeats 1000000 in
set_option maxRecDepth 100000 in
theorem marks_any (w : World) : Calls Try.prog 51 #[] w fun e w' => e = .returned (.slice (some ⟨w.heap.size, 0, none⟩) 3 3) ∧ MTab w' w.heap.size ∧ w.heap.size < w'.heap.size ∧ Below w.heap.size w w' := by
  go_enter Try.func51, Try.ntmps51
  go_wp2
  go_ret
  refine ⟨rfl, ?_, by simp, balloc _ _⟩
  intro i h
  match i, h with
  | 0, _ => constructor <;> (rw [World.cell?_alloc_at _ _ _ _ rfl]; rfl)
  | 1, _ => constructor <;> (rw [World.cell?_alloc_at _ _ _ _ rfl]; rfl)
  | 2, _ => constructor <;> (rw [World.cell?_alloc_at _ _ _ _ rfl]; rfl)

set_option maxHeartbeats 1000000 in
set_option maxRecDepth 100000 in
theorem firstM (F : Nat) (q : Int × ByteArray → Bool) (B : Nat) (x0 : Value) (w : World) (hc : w.cell? ⟨B, 0, none⟩ = some x0) (hE : ∀ args w, (callFunc F args).run Try.prog w = .ok (.enter F args) w)
    (H : ∀ (m : Int) (a : ByteArray) (w' : World), (m, a) ∈ mks → w'.cell? ⟨B, 0, none⟩ = some x0 → Calls Try.prog F #[.agg #[.int .i64 m, .string a], .pointer (some ⟨B, 0, none⟩)] w' fun e w'' => e = .returned (.bool (q (m, a))) ∧ Below w'.heap.size w' w'') :
    Calls Try.prog 29 #[.func (Fn.func F) #[] #[.pointer (some ⟨B, 0, none⟩)]] w fun e w' =>
      e = .returned (.agg #[.int .i64 (fmk q mks).1, .string (fmk q mks).2]) ∧ Below w.heap.size w w' := by
  have hB := World.block_lt_of_cell? w _ hc
  simp only at hB
  have HH := hide H
  clear H
  go_enter Try.func29, Try.ntmps29
  go_wp2_with fail
  refine (marks_any _).mono ?_
  rintro e w3 ⟨rfl, ht, hz3, hb3⟩
  simp only [World.size_alloc] at hz3
  have r0 : w3.cell? ⟨w.heap.size, 0, none⟩ = some (.int .i64 0) := by rw [hb3.cell (p := ⟨w.heap.size, 0, none⟩) (by simp)]; simp
  have r1 : w3.cell? ⟨w.heap.size, 1, none⟩ = some (.string ⟨#[]⟩) := by rw [hb3.cell (p := ⟨w.heap.size, 1, none⟩) (by simp)]; simp
  have q0 : w3.frozen? ⟨w.heap.size, 0, none⟩ = false := by rw [hb3.frozen (p := ⟨w.heap.size, 0, none⟩) (by simp)]; simp
  have q1 : w3.frozen? ⟨w.heap.size, 1, none⟩ = false := by rw [hb3.frozen (p := ⟨w.heap.size, 1, none⟩) (by simp)]; simp
  have c0 : w3.cell? ⟨B, 0, none⟩ = some x0 := (hb3.cell (p := ⟨B, 0, none⟩) (by simp; omega)).trans ((World.cell?_alloc_lt _ _ _ hB).trans hc)
  have HB3 : Hid (Below w.heap.size w w3) := hide (bstep (balloc _ _) hb3)
  have HT := hide ht
  have HM : Hid (mks.length = 3) := hide rfl
  simp only [World.size_alloc] at HT ⊢
  clear ht hb3
  go_wp2_with fail
  go_loopw [7] (fun i wr => ∃ k : Nat, k ≤ 3 ∧ i = .int .i64 k ∧ Below w3.heap.size w3 wr ∧ Hid (fmk q mks = fmk q (mks.drop k))) (fun i _ => 3 - (intOf i).toNat)
  case atStart => exact ⟨0, by omega, rfl, Below.refl _ _, rfl⟩
  case round =>
    obtain ⟨k, hk, rfl, hbr, HL⟩ := hrel
    have hsz := hbr.size
    replace r0 := (hbr.cell (p := ⟨w.heap.size, 0, none⟩) (by simp; omega)).trans r0
    replace r1 := (hbr.cell (p := ⟨w.heap.size, 1, none⟩) (by simp; omega)).trans r1
    replace q0 := (hbr.frozen (p := ⟨w.heap.size, 0, none⟩) (by simp; omega)).trans q0
    replace q1 := (hbr.frozen (p := ⟨w.heap.size, 1, none⟩) (by simp; omega)).trans q1
    replace c0 := (hbr.cell (p := ⟨B, 0, none⟩) (by simp; omega)).trans c0
    by_cases hlt : k < 3
    · have hlm : k < mks.length := hlt
      have ht := (unhide HT) k hlm
      have c1 := (hbr.cell (p := ⟨w.heap.size + 1, k * 2, none⟩) (by simp; omega)).trans ht.1
      have c2 := (hbr.cell (p := ⟨w.heap.size + 1, k * 2 + 1, none⟩) (by simp; omega)).trans ht.2
      have HD : Hid (fmk q (mks.drop k) = if q mks[k] then mks[k] else fmk q (mks.drop (k + 1))) := by
        show _ = _
        rw [List.drop_eq_getElem_cons hlm]; rfl
      have HIn : Hid (mks[k] ∈ mks) := hide (List.getElem_mem _)
      obtain ⟨la, lb, HA⟩ : ∃ la lb, Hid (mks[k] = (la, lb)) := ⟨mks[k].1, mks[k].2, hide rfl⟩
      rw [unhide HA] at c1 c2 HD HIn
      simp only at c1 c2
      clear ht
      go_wp2_with fail
      refine (unhide HH la lb _ (unhide HIn) (by rw [World.cell?_alloc_lt _ _ _ (by simp; omega)]; exact c0)).mono ?_
      rintro e w2 ⟨rfl, hb2⟩
      have hs2 := hb2.size
      simp at hs2
      have d0 : w2.cell? ⟨wr.heap.size, 0, none⟩ = some (.int .i64 la) := by rw [hb2.cell (p := ⟨wr.heap.size, 0, none⟩) (by simp)]; simp
      have d1 : w2.cell? ⟨wr.heap.size, 1, none⟩ = some (.string lb) := by rw [hb2.cell (p := ⟨wr.heap.size, 1, none⟩) (by simp)]; simp
      have hbz := bstep (balloc wr (.cells #[.int .i64 la, .string lb] 54)) hb2
      replace r0 := (hbz.cell (p := ⟨w.heap.size, 0, none⟩) (by simp; omega)).trans r0
      replace r1 := (hbz.cell (p := ⟨w.heap.size, 1, none⟩) (by simp; omega)).trans r1
      replace q0 := (hbz.frozen (p := ⟨w.heap.size, 0, none⟩) (by simp; omega)).trans q0
      replace q1 := (hbz.frozen (p := ⟨w.heap.size, 1, none⟩) (by simp; omega)).trans q1
      have HR := hide (bstep hbr hbz)
      obtain ⟨z, HQ⟩ : ∃ z, Hid (q (la, lb) = z) := ⟨_, hide rfl⟩
      rw [unhide HQ] at HD ⊢
      clear c0 c1 c2 hbr hb2 hbz
      cases z
      · have HL' : Hid (fmk q mks = fmk q (mks.drop (k + 1))) := by
          show _ = _
          rw [unhide HL, unhide HD]; simp
        go_wp2_with fail
        go_roundw
        case rel => exact ⟨k + 1, by omega, by go_num, unhide HR, HL'⟩
        case measure => simp [intOf]; omega
      · have HL' : Hid (fmk q mks = (la, lb)) := by
          show _ = _
          rw [unhide HL, unhide HD]; simp
        have hzz : w.heap.size < w2.heap.size := by omega
        go_wp2_with fail
        refine bodyPost_ret (v := .agg #[.int .i64 la, .string lb]) (by simp [results, Try.results29, go_sem, r0, r1]) rfl ⟨by rw [unhide HL'], ?_⟩
        exact ((bstep (unhide HB3) (unhide HR)).setCell (Nat.le_refl _) _).setCell (Nat.le_refl _) _
    · have ek : k = 3 := by omega
      have HL' : Hid (fmk q mks = (0, ⟨#[]⟩)) := by
        show _ = _
        rw [unhide HL, ek]; rfl
      have hzz : w.heap.size < wr.heap.size := by omega
      have HR := hide hbr
      clear hbr
      go_wp2_with fail
      refine bodyPost_ret (v := .agg #[.int .i64 0, .string ⟨#[]⟩]) (by simp [results, Try.results29, go_sem, r0, r1]) rfl ⟨by rw [unhide HL'], ?_⟩
      exact ((bstep (unhide HB3) (unhide HR)).setCell (Nat.le_refl _) _).setCell (Nat.le_refl _) _

/-- strings.HasPrefix. -/
def hasP (s p : ByteArray) : Bool := decide (bl p <+: bl s)
theorem hasP_at (s p : ByteArray) (h : p.size ≤ s.size) : ((s.extract 0 p.size).toList == p.toList) = hasP s p := by
  unfold hasP
  rw [Bool.eq_iff_iff, beq_iff_eq, decide_eq_true_eq, List.prefix_iff_eq_take, bl_len, ← bl_take]
  constructor
  · intro e
    have : s.extract 0 p.size = p := by
      apply ByteArray.ext
      apply Array.ext'
      rw [← Lib.toList_data, ← Lib.toList_data, e]
    rw [this]
  · intro e
    have : s.extract 0 p.size = p := by rw [← str_bl (s.extract 0 p.size), ← e, str_bl]
    rw [this]
theorem hasP_short (s p : ByteArray) (h : s.size < p.size) : hasP s p = false := by
  unfold hasP
  rw [decide_eq_false_iff_not]
  intro hs
  have := hs.length_le
  rw [bl_len, bl_len] at this
  omega
set_option maxHeartbeats 400000 in
set_option maxRecDepth 100000 in
theorem hasPrefix_any (s p : ByteArray) (w : World) (hm : s.size ≤ maxLen) (hp : p.size ≤ maxLen) :
    Calls Try.prog 31 #[.string s, .string p] w fun e w' => e = .returned (.bool (hasP s p)) ∧ w' = w := by
  unfold maxLen at hm hp
  by_cases h : p.size ≤ s.size
  · have HE := hide (hasP_at s p h)
    go_enter Try.func31, Try.ntmps31
    go_wp2
    go_ret
    refine ⟨?_, rfl⟩
    rw [← unhide HE]
    first | rfl | done
  · have HE := hide (hasP_short s p (by omega))
    go_enter Try.func31, Try.ntmps31
    go_wp2
    go_ret
    refine ⟨?_, rfl⟩
    rw [unhide HE]
    first | rfl | done

theorem mks_size {m : Int} {a : ByteArray} (h : (m, a) ∈ mks) : a.size ≤ 3 := by
  unfold mks at h
  simp only [List.mem_cons, Prod.mk.injEq, List.not_mem_nil, or_false] at h
  rcases h with ⟨_, rfl⟩ | ⟨_, rfl⟩ | ⟨_, rfl⟩ <;> decide
set_option maxHeartbeats 400000 in
set_option maxRecDepth 100000 in
theorem sniffIs (s : ByteArray) (hs : s.size ≤ maxLen) (B : Nat) (m : Int) (a : ByteArray) (w : World) (hm : (m, a) ∈ mks) (hc : w.cell? ⟨B, 0, none⟩ = some (.string s)) :
    Calls Try.prog 30 #[.agg #[.int .i64 m, .string a], .pointer (some ⟨B, 0, none⟩)] w fun e w'' => e = .returned (.bool (hasP s a)) ∧ Below w.heap.size w w'' := by
  have hl := World.block_lt_of_cell? w _ hc
  simp only at hl
  have H := fun w => hasPrefix_any s a w hs (by have := mks_size hm; unfold maxLen; omega)
  go_enter Try.func30, Try.ntmps30
  go_wp2_with fail
  refine (H _).mono ?_
  rintro e w1 ⟨rfl, hw⟩
  replace hw := hw.symm
  subst hw
  go_wp2_with fail
  go_ret
  exact ⟨rfl, balloc _ _⟩
set_option maxHeartbeats 400000 in
set_option maxRecDepth 100000 in
theorem mayIs (s : ByteArray) (hs : s.size ≤ maxLen) (B : Nat) (m : Int) (a : ByteArray) (w : World) (hm : (m, a) ∈ mks) (hc : w.cell? ⟨B, 0, none⟩ = some (.string s)) :
    Calls Try.prog 38 #[.agg #[.int .i64 m, .string a], .pointer (some ⟨B, 0, none⟩)] w fun e w'' => e = .returned (.bool (hasP a s)) ∧ Below w.heap.size w w'' := by
  have hl := World.block_lt_of_cell? w _ hc
  simp only at hl
  have H := fun w => hasPrefix_any a s w (by have := mks_size hm; unfold maxLen; omega) hs
  go_enter Try.func38, Try.ntmps38
  go_wp2_with fail
  refine (H _).mono ?_
  rintro e w1 ⟨rfl, hw⟩
  replace hw := hw.symm
  subst hw
  go_wp2_with fail
  go_ret
  exact ⟨rfl, balloc _ _⟩
set_option maxHeartbeats 400000 in
set_option maxRecDepth 100000 in
theorem putIs (n : Int) (B : Nat) (m : Int) (a : ByteArray) (w : World) (hm : (m, a) ∈ mks) (hc : w.cell? ⟨B, 0, none⟩ = some (.int .i64 n)) :
    Calls Try.prog 33 #[.agg #[.int .i64 m, .string a], .pointer (some ⟨B, 0, none⟩)] w fun e w'' => e = .returned (.bool (m == n)) ∧ Below w.heap.size w w'' := by
  have hl := World.block_lt_of_cell? w _ hc
  simp only at hl
  go_enter Try.func33, Try.ntmps33
  go_wp2
  go_ret
  exact ⟨rfl, balloc _ _⟩

theorem mfield_0 (x : ByteArray) (r : Int) (w : World) : Sem.run Try.prog (Instr.field 54 (.agg #[.int .i64 r, .string x]) 0) w = .ok (.int .i64 r) w := by
  kernel_rfl
theorem mfield_1 (x : ByteArray) (r : Int) (w : World) : Sem.run Try.prog (Instr.field 54 (.agg #[.int .i64 r, .string x]) 1) w = .ok (.string x) w := by
  kernel_rfl

theorem fmk_sniff (s : ByteArray) : ((fmk (fun x => hasP s x.2) mks).1, ((fmk (fun x => hasP s x.2) mks).2.size : Int)) = M.sn (bl s) := by
  have b1 : bl ⟨#[239, 187, 191]⟩ = [239, 187, 191] := by decide
  have b2 : bl ⟨#[254, 255]⟩ = [254, 255] := by decide
  have b3 : bl ⟨#[255, 254]⟩ = [255, 254] := by decide
  unfold M.sn mks fmk fmk fmk fmk hasP
  simp only [b1, b2, b3, decide_eq_true_eq]
  split
  · rfl
  · split
    · rfl
    · split <;> rfl
theorem fmk_may (s : ByteArray) : decide (s.size < (fmk (fun x => hasP x.2 s) mks).2.size) = M.may (bl s) := by
  have b1 : bl ⟨#[239, 187, 191]⟩ = [239, 187, 191] := by decide
  have b2 : bl ⟨#[254, 255]⟩ = [254, 255] := by decide
  have b3 : bl ⟨#[255, 254]⟩ = [255, 254] := by decide
  unfold M.may mks fmk fmk fmk fmk hasP
  simp only [b1, b2, b3, decide_eq_true_eq]
  rw [← bl_len s, Bool.eq_iff_iff, decide_eq_true_eq, decide_eq_true_eq]
  generalize bl s = l
  have z1 : (⟨#[239, 187, 191]⟩ : ByteArray).size = 3 := rfl
  have z2 : (⟨#[254, 255]⟩ : ByteArray).size = 2 := rfl
  have z3 : (⟨#[255, 254]⟩ : ByteArray).size = 2 := rfl
  have z4 : (⟨#[]⟩ : ByteArray).size = 0 := rfl
  rcases l with _ | ⟨a, _ | ⟨b, _ | ⟨c, l⟩⟩⟩
  · simp [z1]
  · simp only [List.cons_prefix_cons, List.nil_prefix, and_true]
    split
    · rename_i h; subst h; simp [z1]
    · split
      · rename_i h; subst h; simp [z2]
      · split
        · rename_i h; subst h; simp [z3]
        · simp [z4]; omega
  · simp only [List.cons_prefix_cons, List.nil_prefix, and_true]
    split
    · rename_i h; obtain ⟨rfl, rfl⟩ := h; simp [z1]
    · split
      · rename_i h; obtain ⟨rfl, rfl⟩ := h; simp [z2]
      · split
        · rename_i h; obtain ⟨rfl, rfl⟩ := h; simp [z3]
        · simp [z4]; omega
  · simp only [List.cons_prefix_cons]
    split
    · rename_i h; simp [z1]
    · split
      · rename_i h; simp [z2]
      · split
        · rename_i h; simp [z3]
        · simp [z4]
theorem fmk_put (n : Int) : bl (fmk (fun x => x.1 == n) mks).2 = M.mkL n ∧ (fmk (fun x => x.1 == n) mks).2.size ≤ 3 := by
  unfold M.mkL mks fmk fmk fmk fmk
  by_cases h1 : n = 1
  · subst h1; decide
  · by_cases h2 : n = 2
    · subst h2; decide
    · by_cases h3 : n = 3
      · subst h3; decide
      · have e1 : ((1 : Int) == n) = false := by simp; omega
        have e2 : ((3 : Int) == n) = false := by simp; omega
        have e3 : ((2 : Int) == n) = false := by simp; omega
        simp only [e1, e2, e3, h1, h2, h3]
        decide
end Go.Proofs.Ythhjfedegbldfad
