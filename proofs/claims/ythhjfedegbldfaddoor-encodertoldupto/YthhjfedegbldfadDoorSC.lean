/- The contract of single.Encode: of more than 3000 integers ErrMany, where one has no byte ErrNone, else each one's byte, and OK; nothing that was there is written. Condition: the integers are Go's ints. -/
import Derived.Test.YthhjfedegbldfadDoorSB
namespace Go.Proofs.YthhjfedegbldfadDoor
open Go.RowKit Go.Maps
set_option linter.unusedVariables false

/-- What Encode answers of at most 3000 integers. -/
def encResS (user : Bool) (xs : List Int) : Value := if xs.all (M.hasB user) then .tuple #[.string (strOfNums (M.encS user xs)), .int .i64 0] else .tuple #[.string ⟨#[]⟩, .int .i64 5]
theorem encResS_yes {user : Bool} {xs : List Int} (h : xs.all (M.hasB user) = true) : encResS user xs = .tuple #[.string (strOfNums (M.encS user xs)), .int .i64 0] := by unfold encResS; rw [if_pos h]
theorem encResS_no {user : Bool} {xs : List Int} (h : xs.all (M.hasB user) = false) : encResS user xs = .tuple #[.string ⟨#[]⟩, .int .i64 5] := by unfold encResS; rw [if_neg (by simp [h])]

set_option maxHeartbeats 400000 in
set_option maxRecDepth 100000 in
theorem encodeS_many (user : Bool) (ao : Option Addr) (len cap : Nat) (w : World) (h : 3000 < len) (hm : len ≤ maxLen) :
    Calls Tryd.prog 74 #[.bool user, .slice ao len cap] w fun e w' => e = .returned (.tuple #[.string ⟨#[]⟩, .int .i64 2]) ∧ w' = w := by
  unfold maxLen at hm
  go_enter Tryd.func74, Tryd.ntmps74
  go_wp2
  go_ret2
  exact ⟨rfl, rfl⟩

/-- What a round of Encode's loop knows. -/
def InTS (user : Bool) (xs : List Int) (w wr : World) (k : Nat) (v : Value) : Prop :=
  wr.ownsRow w.heap.size 5 1 v (M.encS user (xs.take k)).length ((M.encS user (xs.take k)).map (Value.int .u8)) ∧ Below w.heap.size w wr ∧ (xs.take k).all (M.hasB user) = true

theorem InTS.step {user : Bool} {xs : List Int} {w wr w2 : World} {k : Nat} {v v2 : Value} {p c : Int} (h : InTS user xs w wr k v) (hk : k < xs.length) (hp : xs.getD k 0 = p) (hs : M.hasB user p = true) (hc : M.bof user p = c)
    (ho : w2.ownsRow w.heap.size 5 1 v2 (M.encS user (xs.take k) ++ [c]).length ((M.encS user (xs.take k) ++ [c]).map (Value.int .u8))) (hb : Below w.heap.size wr w2) : InTS user xs w w2 (k + 1) v2 := by
  refine ⟨?_, h.2.1.trans hb, ?_⟩
  · rw [take_snoc xs k hk, M.encS_snoc, hp, hc]; exact ho
  · rw [take_snoc xs k hk, List.all_append, h.2.2, hp]; simpa using hs

set_option maxHeartbeats 400000 in
set_option maxRecDepth 100000 in
theorem encodeS_any (user : Bool) {v : Value} {xs : List Int} (w : World) (hx : Ints w v xs) (hwf : ∀ n ∈ xs, (Lit.int .i64 n).wf = true) (h : xs.length ≤ 3000) :
    Calls Tryd.prog 74 #[.bool user, v] w fun e w' => e = .returned (encResS user xs) ∧ Below w.heap.size w w' := by
  obtain ⟨ao, cap, rfl, hm, -, hc⟩ := id hx
  obtain ⟨i0, hi, hz0, hz1, hz2⟩ := info_parts info5
  clear hx
  have HC := hide hc
  have HWF := hide hwf
  clear hc hwf
  go_enter Tryd.func74, Tryd.ntmps74
  go_wp2_with fail
  refine (bytesOf_any user _).mono ?_
  rintro e w1 ⟨rfl, hB1, hb1⟩
  have hlt1 := hB1.lt
  have HB1 := hide hB1
  have HI : Hid (InTS user xs w1 w1 0 (.slice none 0 0)) := hide ⟨World.ownsRow_nil _ _ _ _, Below.refl _ _, by simp⟩
  have HBW := hide hb1
  clear hB1 hb1
  go_wp2_with fail
  go_loopw [7, 19] (fun v i wr => ∃ k : Nat, k ≤ xs.length ∧ i = .int .i64 k ∧ InTS user xs w1 wr k v) (fun _ i _ => xs.length - (intOf i).toNat)
  case atStart => exact ⟨0, by omega, rfl, unhide HI⟩
  case round =>
    obtain ⟨k, hk, rfl, hI⟩ := hrel
    clear HI
    have hz := hI.2.1.size
    have hl : Hid ((M.encS user (xs.take k)).length = k) := hide (by rw [M.encS_len, List.length_take]; omega)
    by_cases hlt : k < xs.length
    · obtain ⟨b, off, rfl, hc⟩ : ∃ b off, ao = some ⟨b, off, none⟩ ∧ ∀ i, i < xs.length → w.cell? ⟨b, off + i, none⟩ = some (.int .i64 (xs.getD i 0)) := by
        rcases unhide HC with h | h
        · subst h; simp at hlt
        · exact h
      have hcell : wr.cell? ⟨b, off + k, none⟩ = some (.int .i64 (xs.getD k 0)) := ((bstep (unhide HBW) hI.2.1).cell (p := ⟨b, off + k, none⟩) (World.block_lt_of_cell? w _ (hc k hlt))).trans (hc k hlt)
      have hbr : b < wr.heap.size := World.block_lt_of_cell? wr _ hcell
      have hpw := unhide HWF (xs.getD k 0) (by simp [hlt])
      obtain ⟨p, HP⟩ : ∃ p, Hid (xs.getD k 0 = p) := ⟨_, rfl⟩
      rw [unhide HP] at hcell hpw
      have hkey : keyOf Tryd.prog 3 (.int .i64 p) = some (.int .i64 p) := keyOf_int_mk Tryd.underlying3 hpw
      have hown : wr.ownsMap Tryd.prog 3 (plainElem (H := Unit) Tryd.prog 5) w.heap.size 256 (Dk user 256) := (unhide HB1).below hI.2.1 hlt1
      obtain ⟨q, HQ⟩ : ∃ q, Hid (M.hasB user p = q) := ⟨_, rfl⟩
      have hq : Maps.has (Dk user 256) (.int .i64 p) = q := (D_has user p).trans (unhide HQ)
      obtain ⟨ao2, cap2, hsh⟩ := owns_shape hI.1
      subst hsh
      clear hc hpw
      cases q
      · go_wp2_with (at_lookup; refine wpList_lookup_own_ok_int _ rfl _ _ 106 rfl 3 5 .u8 law3 Tryd.underlying106 Tryd.underlying5 (zero5 _) w.heap.size 256 _ rfl hown _ _ rfl hkey ?_; intro c hat hwc)
        go_ret2
        refine ⟨?_, bstep (unhide HBW) hI.2.1⟩
        have : xs.all (M.hasB user) = false := by
          rw [List.all_eq_false]
          refine ⟨xs.getD k 0, by simp [hlt], by rw [unhide HP, unhide HQ]; simp⟩
        rw [encResS_no this]; rfl
      · have hbd := M.bof_bd user (unhide HQ)
        have HAT := hide (D_at user (unhide HQ))
        obtain ⟨B, HB⟩ : ∃ B, Hid (M.bof user p = B) := ⟨_, rfl⟩
        rw [unhide HB] at hbd HAT
        have hI' := hI.1
        go_wp2_with (first | (at_lookup; refine wpList_lookup_own_ok_int _ rfl _ _ 106 rfl 3 5 .u8 law3 Tryd.underlying106 Tryd.underlying5 (zero5 _) w.heap.size 256 _ rfl hown _ _ rfl hkey ?_; intro c hat hwc; have hcB : c = B := lit_inj ((unhide HAT).symm.trans hat); subst hcB; clear hat hwc) | (at_builtin; refine wpList_append_own _ rfl (.tmp 31) (.tmp 33) 68 rfl w1.heap.size 5 i0 (.int .u8 0) 1 1 Tryd.underlying68 hi hz0 hz1 hz2 rfl (by decide) _ _ _ rfl (hI'.alloc _) ⟨wr.heap.size, 0, none⟩ 1 1 [.int .u8 c] rfl rfl ?c1 ?c2 ?c3 ?c4 ?c5 ?_))
        case c1 =>
          intro j u hj
          match j, hj with
          | 0, hj => simp at hj; subst hj; simp [Addr.add]
        case c2 => intro u hu; simp at hu; subst hu; rfl
        case c3 => have := unhide hl; unfold maxLen; omega
        case c4 => have := unhide hl; omega
        case c5 => simp; omega
        intro v' w2 hown' hgrow _
        obtain ⟨ao', cap', rfl⟩ := owns_shape hown'
        have HJ : Hid (InTS user xs w1 w2 (k + 1) (.slice ao' ((M.encS user (xs.take k)).length + 1) cap')) := hide (hI.step hlt (unhide HP) (unhide HQ) (unhide HB) (by simpa using hown') (((Below.refl _ _).alloc hz _).grown hgrow (by simp; omega) (fun j hj => by have := hI'.lt j hj; omega)))
        clear hI hI' hown hown' hgrow
        go_wp2_with fail
        go_roundw
        case rel => exact ⟨k + 1, by omega, by go_num, by simpa using unhide HJ⟩
        case measure => simp [intOf]; omega
    · have ek : k = xs.length := by omega
      have hcv := conv_owned hI.1
      obtain ⟨o1, o2, o3⟩ := hI
      have hb := hide (bstep (unhide HBW) o2)
      have et : xs.take k = xs := List.take_of_length_le (by omega)
      rw [et] at hcv o1 o3
      obtain ⟨ao2, cap2, hsh⟩ := owns_shape o1
      subst hsh
      have HA := hide o3
      clear o1 o2 o3 et hl
      go_wp2_with fail
      go_ret2
      refine ⟨?_, unhide hb⟩
      rw [encResS_yes (unhide HA)]; rfl
end Go.Proofs.YthhjfedegbldfadDoor
