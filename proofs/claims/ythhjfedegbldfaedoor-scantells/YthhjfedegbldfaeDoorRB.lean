/- The contract of the reference's AttrsAt: attributes one by one, till there is none; nothing that was there is written. Condition: at most 3000 bytes, the place within them. -/
import Derived.Test.YthhjfedegbldfaeDoorRA
namespace Go.Proofs.YthhjfedegbldfaeDoor
open Go.RowKit
set_option linter.unusedVariables false

/-- The cells of attributes. -/
def atCells (L : List (List Int × List Int)) : List Value := L.flatMap fun x => [.string (strOfNums x.1), .string (strOfNums x.2)]
theorem atCells_snoc (L : List (List Int × List Int)) (x : List Int × List Int) : atCells (L ++ [x]) = atCells L ++ [.string (strOfNums x.1), .string (strOfNums x.2)] := by simp [atCells]
theorem atCells_len (L : List (List Int × List Int)) : (atCells L).length = L.length * 2 := by
  induction L with
  | nil => rfl
  | cons x t ih => simp only [atCells, List.flatMap_cons, List.length_append, List.length_cons, List.length_nil] at ih ⊢; omega
theorem infoA : (Tryd.prog.info? 23).map (fun i => (i.zero, i.size, i.bytes)) = some (some (.agg #[.string ⟨#[]⟩, .string ⟨#[]⟩]), 2, 32) := by kernel_rfl
/-- What a round of AttrsAt's loop knows. -/
def InA (l : List Int) (k0 : Nat) (w wr : World) (k : Nat) (v : Value) : Prop := ∃ L, wr.ownsRow w.heap.size 23 2 v L.length (atCells L) ∧ Below w.heap.size w wr ∧ L.length ≤ k ∧ attrsI l k0 = (L ++ (attrsI l k).1, (attrsI l k).2)

set_option maxHeartbeats 3200000 in
set_option maxRecDepth 100000 in
theorem attrsAt_any (s : ByteArray) (k0 : Nat) (w : World) (hk0 : k0 ≤ s.size) (hs : s.size ≤ 3000) :
    Calls Tryd.prog 14 #[.string s, .int .i64 (k0 : Int)] w fun e w' => ∃ v, e = .returned (.tuple #[v, .int .i64 ((attrsI (bl s) k0).2 : Int)]) ∧ w'.ownsRow w.heap.size 23 2 v (attrsI (bl s) k0).1.length (atCells (attrsI (bl s) k0).1) ∧ Below w.heap.size w w' := by
  obtain ⟨i0, hi, hz0, hz1, hz2⟩ := info_parts infoA
  have HI : Hid (InA (bl s) k0 w w k0 (.slice none 0 0)) := hide ⟨[], World.ownsRow_nil _ _ _ _, Below.refl _ _, by simp, by simp⟩
  have hl := bl_len s
  go_enter Tryd.func14, Tryd.ntmps14
  go_wp2_with fail
  go_loopw [1, 6] (fun i v wr => ∃ k : Nat, i = .int .i64 k ∧ k ≤ s.size ∧ InA (bl s) k0 w wr k v) (fun i _ _ => s.size - (intOf i).toNat)
  case atStart => exact ⟨k0, rfl, hk0, unhide HI⟩
  case round =>
    obtain ⟨k, rfl, hk, L, hO, hB, hLk, hE⟩ := hrel
    clear HI
    have HO := hide hO
    have HB := hide hB
    have HE := hide hE
    have hz := hB.size
    have HA := hide (fun w => attrAt_any s k w hk hs)
    have hle := attrI_le (l := bl s) (at' := k) (by omega)
    clear hO hB hE
    obtain ⟨av, cv, hsh⟩ := owns_shape (unhide HO)
    subst hsh
    obtain ⟨x, tt, ok, HX⟩ : ∃ x tt ok, Hid (attrI (bl s) k = (x, tt, ok)) := ⟨_, _, _, hide rfl⟩
    rw [unhide HX] at HA hle
    simp only at HA hle
    cases ok
    · have HN : Hid (attrsI (bl s) k = ([], tt)) := hide (by rw [attrsI_no (by omega) (by rw [unhide HX]), unhide HX])
      have HE' : Hid (attrsI (bl s) k0 = (L, tt)) := hide (by rw [unhide HE, unhide HN]; simp)
      obtain ⟨x1, x2⟩ := x
      go_wp2_with fail
      refine (unhide HA _).mono ?_
      rintro e w1 ⟨rfl, hb1⟩
      have HB1 := hide (bstep (unhide HB) (bstep hb1 (balloc w1 (.cells #[.string (strOfNums x1), .string (strOfNums x2)] 23))))
      have HO1 := hide (owns_a (owns_below (unhide HO) hb1) (.cells #[.string (strOfNums x1), .string (strOfNums x2)] 23))
      clear hb1
      simp only
      generalize strOfNums x1 = t1 at *
      generalize strOfNums x2 = t2 at *
      go_wp2_with fail
      go_ret2
      refine ⟨.slice av L.length cv, by rw [unhide HE']; rfl, ?_, unhide HB1⟩
      rw [unhide HE']; exact unhide HO1
    · have hto := hle.2.2 rfl
      have HY : Hid (attrsI (bl s) k = (x :: (attrsI (bl s) tt).1, (attrsI (bl s) tt).2)) := hide (by rw [attrsI_yes (by omega) (by rw [unhide HX]), unhide HX])
      have HE' : Hid (attrsI (bl s) k0 = ((L ++ [x]) ++ (attrsI (bl s) tt).1, (attrsI (bl s) tt).2)) := hide (by rw [unhide HE, unhide HY]; simp)
      have HS := hide (atCells_snoc L x)
      obtain ⟨x1, x2⟩ := x
      go_wp2_with fail
      refine (unhide HA _).mono ?_
      rintro e w1 ⟨rfl, hb1⟩
      have hz1' := hb1.size
      have HB1 := hide (bstep (unhide HB) hb1)
      have HO1 := hide (owns_below (unhide HO) hb1)
      clear hb1
      simp only at HS ⊢
      generalize strOfNums x1 = t1 at *
      generalize strOfNums x2 = t2 at *
      go_wp2_with (at_builtin; refine wpList_append_own _ rfl (.tmp 22) (.tmp 24) 27 rfl w.heap.size 23 i0 (.agg #[.string ⟨#[]⟩, .string ⟨#[]⟩]) 2 32 Tryd.underlying27 hi hz0 hz1 hz2 rfl (by decide) _ _ _ rfl (owns_a (owns_a (unhide HO1) _) _) ⟨w1.heap.size + 1, 0, none⟩ 1 1 [.string t1, .string t2] rfl rfl ?c1 ?c2 ?c3 ?c4 ?c5 ?_)
      case c1 =>
        intro j u hj
        match j, hj with
        | 0, hj => simp at hj; subst hj; simp [Addr.add]
        | 1, hj => simp at hj; subst hj; simp [Addr.add]
      case c2 => intro u hu; simp at hu; rcases hu with rfl | rfl <;> rfl
      case c3 => unfold maxLen; omega
      case c4 => omega
      case c5 => simp; omega
      intro v2 w2 ho2 hg2 _
      obtain ⟨ao2, cap2, hsh2⟩ := owns_shape ho2
      subst hsh2
      have hlt := (unhide HO1).lt
      have HJ : Hid (InA (bl s) k0 w w2 tt (.slice ao2 (L.length + 1) cap2)) := hide ⟨L ++ [(x1, x2)], by rw [unhide HS]; simpa using ho2, (unhide HB1).trans ((((Below.refl w.heap.size w1).alloc (by omega) _).alloc (by simp; omega) _).grown hg2 (by simp; omega) (fun j hj => (hlt j hj).1)), by simp; omega, unhide HE'⟩
      clear ho2 hg2 hlt
      go_wp2_with fail
      go_roundw
      case rel => exact ⟨tt, rfl, by omega, by simpa using unhide HJ⟩
      case measure => simp [intOf]; omega
end Go.Proofs.YthhjfedegbldfaeDoor
