/- The contract of encoder.write: code points as bytes of an output that has not all of them; what it has not is told, or is an error. Condition: strconv.Itoa answers numerals in that world. -/
import Derived.Test.YthhjfedegbldfadDoorED
namespace Go.Proofs.YthhjfedegbldfadDoor
open Go.RowKit
set_option linter.unusedVariables false

/-- What write answers. -/
def resW (n mode : Int) (xs : List Int) : Value := if mode = 1 ∨ xs.all (M.hasE n) = true then .tuple #[.string (strOfNums (M.encB n (M.ptsE n xs))), .int .i64 0] else .tuple #[.string ⟨#[]⟩, .int .i64 5]
theorem resW_yes {n mode : Int} {xs : List Int} (h : mode = 1 ∨ xs.all (M.hasE n) = true) : resW n mode xs = .tuple #[.string (strOfNums (M.encB n (M.ptsE n xs))), .int .i64 0] := by unfold resW; rw [if_pos h]
theorem resW_no {n mode : Int} {xs : List Int} (hm : mode = 0) (h : xs.all (M.hasE n) = false) : resW n mode xs = .tuple #[.string ⟨#[]⟩, .int .i64 5] := by
  unfold resW; rw [if_neg (by rw [hm, h]; simp)]
/-- What a round of write's loop knows. -/
def InX (n mode : Int) (xs : List Int) (w1 wr : World) (k : Nat) : Prop := (∃ v, Acc w1.heap.size (M.ptsE n (xs.take k)) v wr) ∧ Below w1.heap.size w1 wr ∧ (mode = 0 → (xs.take k).all (M.hasE n) = true)
theorem InX.start (n mode : Int) (xs : List Int) (w1 : World) : InX n mode xs w1 (w1.alloc (.cells #[.slice none 0 0] 22)) 0 :=
  ⟨⟨.slice none 0 0, heap_alloc_new _ _, World.ownsRow_nil _ _ _ _, by simp⟩, balloc _ _, fun _ => by simp⟩
theorem wf_sclr {p : Int} (h : M.sclr p = true) : (Lit.int .i64 p).wf = true := by
  have := M.sclr_bd h
  have e1 : IntKind.i64.min = -9223372036854775808 := by decide
  have e2 : IntKind.i64.max = 9223372036854775807 := by decide
  simp [Lit.wf, e1, e2]
  omega
theorem sclr_all {xs : List Int} (h : xs.all M.sclr = true) : ∀ n ∈ xs, M.sclr n = true := List.all_eq_true.1 h
theorem pts_few {n : Int} {xs : List Int} (h : xs.all M.sclr = true) (hl : xs.length ≤ 3000) : (M.ptsE n xs).length ≤ 30000 := by have := M.ptsE_len n xs h; omega
theorem all_take {xs : List Int} {f : Int → Bool} (h : xs.all f = true) (k : Nat) : (xs.take k).all f = true := by
  rw [List.all_eq_true] at *
  intro x hx
  exact h x (List.mem_of_mem_take hx)
theorem all_upto {xs : List Int} {f : Int → Bool} {k : Nat} (h : (xs.take k).all f = true) (hk : k < xs.length) {p : Int} (hp : xs.getD k 0 = p) (hf : f p = true) : (xs.take (k + 1)).all f = true := by
  rw [take_getD hk hp, List.all_append, h]; simp [hf]

set_option maxHeartbeats 1600000 in
set_option maxRecDepth 100000 in
theorem writeS_any (user : Bool) (n : Int) (hn : n = if user then 5 else 4) (mode : Int) (hmode : mode = 0 ∨ mode = 1) (v : Value) (xs : List Int) (w : World) (hT : Tb w) (hI : Ints w v xs) (hlen : xs.length ≤ 3000) (hs : xs.all M.sclr = true) :
    Calls Tryd.prog 22 #[.int .i64 n, .int .i64 mode, v] w fun e w' => e = .returned (resW n mode xs) ∧ Below w.heap.size w w' := by
  obtain ⟨ao, cap, rfl, -, -, hc⟩ := hI
  have HC := hide hc
  have HS := hide hs
  have HT := hide hT
  have HM := hide hmode
  have HK := hide (fun w => knownS_any user n hn w)
  have HH0 : Hid (∀ p, M.hasE n p = M.hasB user p) := hide (fun p => by rw [hn]; exact M.hasS user p)
  have HB0 : Hid (∀ l, M.encB n l = M.encS user l) := hide (fun l => by rw [hn]; exact M.encB_S user l)
  have HN0 := hide hn
  clear hn
  clear hc hs hT hmode
  go_enter Tryd.func22, Tryd.ntmps22
  go_wp2_with fail
  refine (unhide HK _).mono ?_
  rintro e w1 ⟨B, rfl, hP, hb1⟩
  have HB1 := hide hb1
  have HP1 := hide hP
  clear hb1 hP
  go_wp2_with fail
  go_loopw [18] (fun i wr => ∃ k : Nat, k ≤ xs.length ∧ i = .int .i64 k ∧ InX n mode xs w1 wr k) (fun i _ => xs.length - (intOf i).toNat)
  case atStart => exact ⟨0, by omega, rfl, InX.start _ _ _ _⟩
  case round =>
    obtain ⟨k, hk, rfl, ⟨vv, hA⟩, hB, hM⟩ := hrel
    have hz := hB.size
    have HBW := hide (bstep (unhide HB1) hB)
    have HA := hide hA
    have HB := hide hB
    have HMo := hide hM
    have HPK : Hid ((M.ptsE n (xs.take k)).length ≤ 30000) := hide (pts_few (all_take (unhide HS) k) (by rw [List.length_take]; omega))
    clear hA hB hM
    by_cases hlt : k < xs.length
    · obtain ⟨b, off, rfl, hc⟩ : ∃ b off, ao = some ⟨b, off, none⟩ ∧ ∀ i, i < xs.length → w.cell? ⟨b, off + i, none⟩ = some (.int .i64 (xs.getD i 0)) := by
        rcases unhide HC with h | h
        · subst h; simp at hlt
        · exact h
      have hcell : wr.cell? ⟨b, off + k, none⟩ = some (.int .i64 (xs.getD k 0)) := ((unhide HBW).cell (p := ⟨b, off + k, none⟩) (World.block_lt_of_cell? w _ (hc k hlt))).trans (hc k hlt)
      have hbr : b < wr.heap.size := World.block_lt_of_cell? wr _ hcell
      have HSp : Hid (M.sclr (xs.getD k 0) = true) := hide (sclr_all (unhide HS) _ (by simp [hlt]))
      obtain ⟨p, HP⟩ : ∃ p, Hid (xs.getD k 0 = p) := ⟨_, hide rfl⟩
      rw [unhide HP] at hcell HSp
      clear hc
      have HH := hide (by have := hasS_any user B p wr ((unhide HP1).below (unhide HB)); rw [← unhide HH0] at this; exact this)
      cases hq : M.hasE n p
      · rw [hq] at HH
        rcases unhide HM with hm0 | hm1
        · subst hm0
          have HW : Hid (resW n 0 xs = .tuple #[.string ⟨#[]⟩, .int .i64 5]) := hide (resW_no rfl (all_no hlt (unhide HP) hq))
          clear hq
          go_wp2_with fail
          refine (unhide HH).mono ?_
          rintro e w2 ⟨rfl, hw⟩
          have HB2 : Hid (Below wr.heap.size wr w2) := hide (by rw [hw]; exact Below.refl _ _)
          clear hw HH
          go_wp2_with fail
          go_ret2
          refine ⟨?_, bstep (unhide HBW) (unhide HB2)⟩
          rw [unhide HW]; rfl
        · subst hm1
          have HE : Hid (M.ptsE n (xs.take (k + 1)) = M.ptsE n (xs.take k) ++ M.tld p) := hide (by rw [take_getD hlt (unhide HP), M.ptsE_snoc, M.ptE_no hq])
          clear hq
          go_wp2_with fail
          refine (unhide HH).mono ?_
          rintro e w2 ⟨rfl, hw⟩
          have HB2 : Hid (Below wr.heap.size wr w2) := hide (by rw [hw]; exact Below.refl _ _)
          clear hw HH
          go_wp2_with fail
          refine (putNumber_any w1.heap.size p vv _ _ ((unhide HT).below (bstep (unhide HBW) (unhide HB2))) (unhide HSp) ((unhide HA).below (unhide HB2)) (unhide HPK)).mono ?_
          rintro e w3 ⟨rfl, v3, hA3, hB3⟩
          have HI : Hid (InX n 1 xs w1 w3 (k + 1)) := hide ⟨⟨v3, by rw [unhide HE]; exact hA3⟩, (bstep (unhide HB) (unhide HB2)).trans hB3, fun h => by cases h⟩
          clear hA3 hB3
          go_wp2_with fail
          go_roundw
          case rel => exact ⟨k + 1, by omega, by go_num, unhide HI⟩
          case measure => simp [intOf]; omega
      · rw [hq] at HH
        have HE : Hid (M.ptsE n (xs.take (k + 1)) = M.ptsE n (xs.take k) ++ [p]) := hide (by rw [take_getD hlt (unhide HP), M.ptsE_snoc, M.ptE_yes hq])
        have HM1 : Hid (mode = 0 → (xs.take (k + 1)).all (M.hasE n) = true) := hide (fun h => all_upto (unhide HMo h) hlt (unhide HP) hq)
        clear hq
        go_wp2_with fail
        refine (unhide HH).mono ?_
        rintro e w2 ⟨rfl, hw⟩
        have HB2 : Hid (Below wr.heap.size wr w2) := hide (by rw [hw]; exact Below.refl _ _)
        clear hw HH
        go_wp2_with fail
        refine (push_any w1.heap.size p vv _ _ ((unhide HA).below (unhide HB2)) (by have := unhide HPK; omega)).mono ?_
        rintro e w3 ⟨rfl, v3, hA3, hB3, -⟩
        have HI : Hid (InX n mode xs w1 w3 (k + 1)) := hide ⟨⟨v3, by rw [unhide HE]; exact hA3⟩, (bstep (unhide HB) (unhide HB2)).trans hB3, unhide HM1⟩
        clear hA3 hB3
        go_wp2_with fail
        go_roundw
        case rel => exact ⟨k + 1, by omega, by go_num, unhide HI⟩
        case measure => simp [intOf]; omega
    · have et : xs.take k = xs := List.take_of_length_le (by omega)
      rw [et] at HA HMo
      have HR : Hid (resW n mode xs = .tuple #[.string (strOfNums (M.encB n (M.ptsE n xs))), .int .i64 0]) := hide (resW_yes (by
        rcases unhide HM with h | h
        · exact .inr (unhide HMo h)
        · exact .inl h))
      have HSP := hide (sclr_all (M.ptsE_sclr n xs (unhide HS)))
      have hcv := cell_of_one (unhide HA).1
      have hlw : w1.heap.size < wr.heap.size := by have := (unhide HA).2.2; omega
      have HO := hide (unhide HA).2.1
      have HAll : Hid ((M.ptsE n xs).all (M.hasB user) = true) := hide (by have := M.ptsE_has n xs; rwa [show M.hasE n = M.hasB user from funext (unhide HH0)] at this)
      have HBO := hide (bytesOfS_any user n (unhide HN0) _ vv _ wr (unhide HO) (pts_few (unhide HS) hlen) (fun m hm => wf_sclr (unhide HSP m hm)) (unhide HAll))
      rw [← unhide HB0] at HBO
      obtain ⟨av, capv, hsh⟩ := owns_shape (unhide HO)
      subst hsh
      clear et
      go_wp2_with fail
      refine (unhide HBO).mono ?_
      rintro e w5 ⟨rfl, hb5⟩
      have HB5 := hide (bstep (unhide HBW) hb5)
      clear hb5
      go_wp2_with fail
      go_ret2
      refine ⟨?_, unhide HB5⟩
      rw [unhide HR]; rfl

set_option maxHeartbeats 1600000 in
set_option maxRecDepth 100000 in
theorem writeK_any  (mode : Int) (hmode : mode = 0 ∨ mode = 1) (v : Value) (xs : List Int) (w : World) (hT : Tb w) (hI : Ints w v xs) (hlen : xs.length ≤ 3000) (hs : xs.all M.sclr = true) :
    Calls Tryd.prog 22 #[.int .i64 6, .int .i64 mode, v] w fun e w' => e = .returned (resW 6 mode xs) ∧ Below w.heap.size w w' := by
  obtain ⟨ao, cap, rfl, -, -, hc⟩ := hI
  have HC := hide hc
  have HS := hide hs
  have HT := hide hT
  have HM := hide hmode
  have HK := hide (fun w => knownK_any w)
  clear hc hs hT hmode
  go_enter Tryd.func22, Tryd.ntmps22
  go_wp2_with fail
  refine (unhide HK _).mono ?_
  rintro e w1 ⟨rfl, hw⟩
  have HB1 : Hid (Below w.heap.size w w1) := hide (by rw [hw]; exact Below.refl _ _)
  clear hw
  go_wp2_with fail
  go_loopw [18] (fun i wr => ∃ k : Nat, k ≤ xs.length ∧ i = .int .i64 k ∧ InX 6 mode xs w1 wr k) (fun i _ => xs.length - (intOf i).toNat)
  case atStart => exact ⟨0, by omega, rfl, InX.start _ _ _ _⟩
  case round =>
    obtain ⟨k, hk, rfl, ⟨vv, hA⟩, hB, hM⟩ := hrel
    have hz := hB.size
    have HBW := hide (bstep (unhide HB1) hB)
    have HA := hide hA
    have HB := hide hB
    have HMo := hide hM
    have HPK : Hid ((M.ptsE 6 (xs.take k)).length ≤ 30000) := hide (pts_few (all_take (unhide HS) k) (by rw [List.length_take]; omega))
    clear hA hB hM
    by_cases hlt : k < xs.length
    · obtain ⟨b, off, rfl, hc⟩ : ∃ b off, ao = some ⟨b, off, none⟩ ∧ ∀ i, i < xs.length → w.cell? ⟨b, off + i, none⟩ = some (.int .i64 (xs.getD i 0)) := by
        rcases unhide HC with h | h
        · subst h; simp at hlt
        · exact h
      have hcell : wr.cell? ⟨b, off + k, none⟩ = some (.int .i64 (xs.getD k 0)) := ((unhide HBW).cell (p := ⟨b, off + k, none⟩) (World.block_lt_of_cell? w _ (hc k hlt))).trans (hc k hlt)
      have hbr : b < wr.heap.size := World.block_lt_of_cell? wr _ hcell
      have HSp : Hid (M.sclr (xs.getD k 0) = true) := hide (sclr_all (unhide HS) _ (by simp [hlt]))
      obtain ⟨p, HP⟩ : ∃ p, Hid (xs.getD k 0 = p) := ⟨_, hide rfl⟩
      rw [unhide HP] at hcell HSp
      clear hc
      have HH := hide (by have := hasK_any p wr (Gi_of (unhide HSp)); rw [← M.hasE_six] at this; exact this)
      cases hq : M.hasE 6 p
      · rw [hq] at HH
        rcases unhide HM with hm0 | hm1
        · subst hm0
          have HW : Hid (resW 6 0 xs = .tuple #[.string ⟨#[]⟩, .int .i64 5]) := hide (resW_no rfl (all_no hlt (unhide HP) hq))
          clear hq
          go_wp2_with fail
          refine (unhide HH).mono ?_
          rintro e w2 ⟨rfl, hb2⟩
          have HB2 := hide hb2
          clear hb2 HH
          go_wp2_with fail
          go_ret2
          refine ⟨?_, bstep (unhide HBW) (unhide HB2)⟩
          rw [unhide HW]; rfl
        · subst hm1
          have HE : Hid (M.ptsE 6 (xs.take (k + 1)) = M.ptsE 6 (xs.take k) ++ M.tld p) := hide (by rw [take_getD hlt (unhide HP), M.ptsE_snoc, M.ptE_no hq])
          clear hq
          go_wp2_with fail
          refine (unhide HH).mono ?_
          rintro e w2 ⟨rfl, hb2⟩
          have HB2 := hide hb2
          clear hb2 HH
          go_wp2_with fail
          refine (putNumber_any w1.heap.size p vv _ _ ((unhide HT).below (bstep (unhide HBW) (unhide HB2))) (unhide HSp) ((unhide HA).below (unhide HB2)) (unhide HPK)).mono ?_
          rintro e w3 ⟨rfl, v3, hA3, hB3⟩
          have HI : Hid (InX 6 1 xs w1 w3 (k + 1)) := hide ⟨⟨v3, by rw [unhide HE]; exact hA3⟩, (bstep (unhide HB) (unhide HB2)).trans hB3, fun h => by cases h⟩
          clear hA3 hB3
          go_wp2_with fail
          go_roundw
          case rel => exact ⟨k + 1, by omega, by go_num, unhide HI⟩
          case measure => simp [intOf]; omega
      · rw [hq] at HH
        have HE : Hid (M.ptsE 6 (xs.take (k + 1)) = M.ptsE 6 (xs.take k) ++ [p]) := hide (by rw [take_getD hlt (unhide HP), M.ptsE_snoc, M.ptE_yes hq])
        have HM1 : Hid (mode = 0 → (xs.take (k + 1)).all (M.hasE 6) = true) := hide (fun h => all_upto (unhide HMo h) hlt (unhide HP) hq)
        clear hq
        go_wp2_with fail
        refine (unhide HH).mono ?_
        rintro e w2 ⟨rfl, hb2⟩
        have HB2 := hide hb2
        clear hb2 HH
        go_wp2_with fail
        refine (push_any w1.heap.size p vv _ _ ((unhide HA).below (unhide HB2)) (by have := unhide HPK; omega)).mono ?_
        rintro e w3 ⟨rfl, v3, hA3, hB3, -⟩
        have HI : Hid (InX 6 mode xs w1 w3 (k + 1)) := hide ⟨⟨v3, by rw [unhide HE]; exact hA3⟩, (bstep (unhide HB) (unhide HB2)).trans hB3, unhide HM1⟩
        clear hA3 hB3
        go_wp2_with fail
        go_roundw
        case rel => exact ⟨k + 1, by omega, by go_num, unhide HI⟩
        case measure => simp [intOf]; omega
    · have et : xs.take k = xs := List.take_of_length_le (by omega)
      rw [et] at HA HMo
      have HR : Hid (resW 6 mode xs = .tuple #[.string (strOfNums (M.encB 6 (M.ptsE 6 xs))), .int .i64 0]) := hide (resW_yes (by
        rcases unhide HM with h | h
        · exact .inr (unhide HMo h)
        · exact .inl h))
      have HSP := hide (sclr_all (M.ptsE_sclr 6 xs (unhide HS)))
      have hcv := cell_of_one (unhide HA).1
      have hlw : w1.heap.size < wr.heap.size := by have := (unhide HA).2.2; omega
      have HO := hide (unhide HA).2.1
      have HAll : Hid ((M.ptsE 6 xs).all M.anyK = true) := hide (M.ptsE_has 6 xs)
      have HBO := hide (bytesOfK_any vv _ wr (Ints.of_owns (unhide HO)) (pts_few (unhide HS) hlen) (fun m hm => Gi_of (unhide HSP m hm)) (unhide HAll))
      rw [← M.encB_6] at HBO
      obtain ⟨av, capv, hsh⟩ := owns_shape (unhide HO)
      subst hsh
      clear et
      go_wp2_with fail
      refine (unhide HBO).mono ?_
      rintro e w5 ⟨rfl, hb5⟩
      have HB5 := hide (bstep (unhide HBW) hb5)
      clear hb5
      go_wp2_with fail
      go_ret2
      refine ⟨?_, unhide HB5⟩
      rw [unhide HR]; rfl
end Go.Proofs.YthhjfedegbldfadDoor
