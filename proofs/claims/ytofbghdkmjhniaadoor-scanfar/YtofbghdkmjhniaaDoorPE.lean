/- The contract of attr.All: attributes one by one, till there is none; nothing that was there is written. Condition: at most 3000 bytes, the place within them; else the error. -/
import Derived.Test.YtofbghdkmjhniaaDoorPD
import Derived.Test.YtofbghdkmjhniaaDoorRC
namespace Go.Proofs.YtofbghdkmjhniaaDoor
open Go.RowKit
set_option linter.unusedVariables false

def boolN : Value → Nat
  | .bool true => 1
  | _ => 0
/-- The two cells of an attribute at block B. -/
def Ac (B : Nat) (w : World) (x y : ByteArray) : Prop :=
  w.cell? ⟨B, 0, none⟩ = some (.string x) ∧ w.cell? ⟨B, 1, none⟩ = some (.string y) ∧ w.frozen? ⟨B, 0, none⟩ = false ∧ w.frozen? ⟨B, 1, none⟩ = false
theorem Ac.below {B : Nat} {w w' : World} {x y : ByteArray} (h : Ac B w x y) (hb : Below (B + 1) w w') : Ac B w' x y := by
  obtain ⟨h0, h1, f0, f1⟩ := h
  exact ⟨(hb.cell (p := ⟨B, 0, none⟩) (by simp)).trans h0, (hb.cell (p := ⟨B, 1, none⟩) (by simp)).trans h1, (hb.frozen (p := ⟨B, 0, none⟩) (by simp)).trans f0, (hb.frozen (p := ⟨B, 1, none⟩) (by simp)).trans f1⟩
theorem Ac.put {B : Nat} {w : World} {x y : ByteArray} (h : Ac B w x y) (u v : ByteArray) : Ac B ((w.setCell ⟨B, 0, none⟩ (.string u)).setCell ⟨B, 1, none⟩ (.string v)) u v := by
  obtain ⟨h0, h1, f0, f1⟩ := h
  have h1' : (w.setCell ⟨B, 0, none⟩ (.string u)).cell? ⟨B, 1, none⟩ = some (.string y) := by rw [World.cell?_setCell_other _ _ _ _ (by simp)]; exact h1
  refine ⟨?_, ?_, ?_, ?_⟩
  · rw [World.cell?_setCell_other _ _ _ _ (by simp), World.cell?_setCell_same _ _ _ h0]
  · rw [World.cell?_setCell_same _ _ _ h1']
  · rw [World.frozen?_setCell, World.frozen?_setCell]; exact f0
  · rw [World.frozen?_setCell, World.frozen?_setCell]; exact f1
theorem Ac.new (w : World) (x y : ByteArray) : Ac w.heap.size (w.alloc (.cells #[.string x, .string y] 33)) x y := by
  refine ⟨by simp, by simp, by simp, by simp⟩
/-- What a round of All's loop knows. -/
def InL (l : List Int) (k0 B : Nat) (w wr : World) (tt : Nat) (q : Bool) (v : Value) : Prop :=
  ∃ (k : Nat) (x1 x2 : List Int) (L : List (List Int × List Int)), k ≤ l.length ∧ attrI l k = ((x1, x2), tt, q) ∧ wr.ownsRow (B + 1) 33 2 v L.length (atCells L) ∧ Below w.heap.size w wr ∧ L.length ≤ k ∧ attrsI l k0 = (L ++ (attrsI l k).1, (attrsI l k).2) ∧ Ac B wr (strOfNums x1) (strOfNums x2)

set_option maxHeartbeats 3200000 in
set_option maxRecDepth 100000 in
theorem All_ok (s : ByteArray) (k0 : Nat) (w : World) (hk0 : k0 ≤ s.size) (hs : s.size ≤ 3000) :
    Calls Tryd.prog 36 #[.string s, .int .i64 (k0 : Int)] w fun e w' => ∃ v, e = .returned (.tuple #[v, .int .i64 ((attrsI (bl s) k0).2 : Int), .int .i64 0]) ∧ Ats w' v (txts (attrsI (bl s) k0).1) ∧ Below w.heap.size w w' := by
  obtain ⟨i0, hi, hz0, hz1, hz2⟩ := info_parts infoA
  have hl := bl_len s
  have HC := hide (fun w => check_any s (k0 : Int) w (by unfold maxLen; omega))
  rw [badE_no hk0 hs] at HC
  have HN := hide (fun w => next_any s k0 w hk0 hs)
  have hle := attrI_le (l := bl s) (at' := k0) (by omega)
  obtain ⟨x1, x2, a, q, Hv⟩ : ∃ x1 x2 a q, Hid (attrI (bl s) k0 = ((x1, x2), a, q)) := ⟨_, _, _, _, hide rfl⟩
  rw [unhide Hv] at HN hle
  simp only at HN hle
  go_enter Tryd.func36, Tryd.ntmps36
  go_wp2_with fail
  refine (unhide HC _).mono ?_
  rintro e w1 ⟨rfl, hw⟩
  replace hw := hw.symm
  subst hw
  go_wp2_with fail
  refine (unhide HN _).mono ?_
  rintro e w1 ⟨rfl, hb1⟩
  have hz1' := hb1.size
  have HI : Hid (InL (bl s) k0 w1.heap.size w (w1.alloc (.cells #[.string (strOfNums x1), .string (strOfNums x2)] 33)) a q (.slice none 0 0)) :=
    hide ⟨k0, x1, x2, [], by omega, unhide Hv, World.ownsRow_nil _ _ _ _, bstep hb1 (balloc _ _), by simp, by simp, Ac.new _ _ _⟩
  clear hb1 HC HN
  go_wp2_with fail
  go_loopw [1, 8, 10] (fun i v qv wr => ∃ (tt : Nat) (q : Bool), i = .int .i64 tt ∧ tt ≤ s.size ∧ qv = .bool q ∧ InL (bl s) k0 w1.heap.size w wr tt q v) (fun i _ qv _ => 2 * (s.size - (intOf i).toNat) + boolN qv)
  case atStart => exact ⟨a, q, rfl, by omega, rfl, unhide HI⟩
  case round =>
    obtain ⟨tt, q, rfl, htt, rfl, k, x1, x2, L, hk, hX, hO, hBl, hLk, hE, hA⟩ := hrel
    clear HI
    have HX := hide hX
    have HO := hide hO
    have HB := hide hBl
    have HE := hide hE
    have HA := hide hA
    have hbt := World.block_lt_of_cell? wr _ hA.1
    simp only at hbt
    obtain ⟨r0, r1, f0, f1⟩ := hA
    have hle := attrI_le (l := bl s) (at' := k) hk
    rw [hX] at hle
    simp only at hle
    clear hX hO hBl hE
    obtain ⟨av, cv, hsh⟩ := owns_shape (unhide HO)
    subst hsh
    cases q
    · have HE' : Hid (attrsI (bl s) k0 = (L, tt)) := hide (by rw [unhide HE, attrsI_no hk (by rw [unhide HX]), unhide HX]; simp)
      go_wp2_with fail
      go_ret3
      refine ⟨.slice av L.length cv, by rw [unhide HE']; rfl, ?_, unhide HB⟩
      rw [unhide HE']; exact Ats.of_owns (unhide HO)
    · have hto := hle.2.2 rfl
      have HY : Hid (attrsI (bl s) k = ((x1, x2) :: (attrsI (bl s) tt).1, (attrsI (bl s) tt).2)) := hide (by rw [attrsI_yes hk (by rw [unhide HX]), unhide HX])
      have HE' : Hid (attrsI (bl s) k0 = ((L ++ [(x1, x2)]) ++ (attrsI (bl s) tt).1, (attrsI (bl s) tt).2)) := hide (by rw [unhide HE, unhide HY]; simp)
      have HS := hide (atCells_snoc L (x1, x2))
      have HN := hide (fun w => next_any s tt w htt hs)
      have hle2 := attrI_le (l := bl s) (at' := tt) (by omega)
      obtain ⟨y1, y2, t2, q2, HY2⟩ : ∃ y1 y2 t2 q2, Hid (attrI (bl s) tt = ((y1, y2), t2, q2)) := ⟨_, _, _, _, hide rfl⟩
      rw [unhide HY2] at HN hle2
      simp only at HN hle2 HS
      generalize strOfNums x1 = t1 at *
      generalize strOfNums x2 = u1 at *
      go_wp2_with (at_builtin; refine wpList_append_own _ rfl (.tmp 25) (.tmp 27) 34 rfl (w1.heap.size + 1) 33 i0 (.agg #[.string ⟨#[]⟩, .string ⟨#[]⟩]) 2 32 Tryd.underlying34 hi hz0 hz1 hz2 rfl (by decide) _ _ _ rfl (owns_a (unhide HO) _) ⟨wr.heap.size, 0, none⟩ 1 1 [.string t1, .string u1] rfl rfl ?c1 ?c2 ?c3 ?c4 ?c5 ?_)
      case c2 => exact ⟨rfl, rfl⟩
      case c3 => unfold maxLen; omega
      case c4 => omega
      case c5 => omega
      intro v2 w2 ho2 hg2 _
      obtain ⟨ao2, cap2, hsh2⟩ := owns_shape ho2
      subst hsh2
      have hlt := (unhide HO).lt
      have hq := ((Below.refl (w1.heap.size + 1) wr).alloc (by omega) (.cells #[.string t1, .string u1] 33)).grown hg2 (by simp; omega) (fun j hj => (hlt j hj).1)
      have hzq := hq.size
      have HA2 := hide ((unhide HA).below hq)
      have HB2 := hide ((unhide HB).trans (hq.mono (by omega)))
      have HO2 := hide ho2
      clear ho2 hg2 hlt hq HA r0 r1 f0 f1
      go_wp2_with fail
      refine (unhide HN _).mono ?_
      rintro e w3 ⟨rfl, hb3⟩
      have hz3 := hb3.size
      have hac := (unhide HA2).below (hb3.mono (by omega))
      have HA3 := hide (hac.put (strOfNums y1) (strOfNums y2))
      have HB3 := hide ((bstep (unhide HB2) hb3).setCell (p := ⟨w1.heap.size, 0, none⟩) (by simpa using hz1') (.string (strOfNums y1)))
      have HB4 := hide ((unhide HB3).setCell (p := ⟨w1.heap.size, 1, none⟩) (by simpa using hz1') (.string (strOfNums y2)))
      have HO3 := hide (ownsRow_setCell_below (ownsRow_setCell_below (owns_below (unhide HO2) hb3) (a := ⟨w1.heap.size, 0, none⟩) (by simp) (.string (strOfNums y1))) (a := ⟨w1.heap.size, 1, none⟩) (by simp) (.string (strOfNums y2)))
      have hbt3 : w1.heap.size < w3.heap.size := by omega
      obtain ⟨r0, r1, f0, f1⟩ := hac
      have HJ : Hid (InL (bl s) k0 w1.heap.size w ((w3.setCell ⟨w1.heap.size, 0, none⟩ (.string (strOfNums y1))).setCell ⟨w1.heap.size, 1, none⟩ (.string (strOfNums y2))) t2 q2 (.slice ao2 (L.length + 1) cap2)) :=
        hide ⟨tt, y1, y2, L ++ [(x1, x2)], by omega, unhide HY2, by rw [unhide HS]; simpa using unhide HO3, unhide HB4, by simp; omega, unhide HE', unhide HA3⟩
      clear hb3 HB3 HB4 HA3 HA2 HB2 HO2 HO3
      go_wp2_with fail
      go_roundw
      case rel => exact ⟨t2, q2, rfl, by omega, rfl, by simpa using unhide HJ⟩
      case measure =>
        cases q2
        · simp [intOf, boolN]; omega
        · have := hle2.2.2 rfl
          simp [intOf, boolN]; omega
set_option maxHeartbeats 1600000 in
set_option maxRecDepth 100000 in
theorem All_bad (s : ByteArray) (k : Int) (w : World) (hs : s.size ≤ maxLen) (hE : badE s k ≠ 0) :
    Calls Tryd.prog 36 #[.string s, .int .i64 k] w fun e w' => ∃ v, e = .returned (.tuple #[v, .int .i64 0, .int .i64 (badE s k)]) ∧ Ats w' v [] ∧ Below w.heap.size w w' := by
  have HC := hide (fun w => check_any s k w hs)
  obtain ⟨b, Hb⟩ : ∃ b, Hid (badE s k = b) := ⟨_, hide rfl⟩
  rw [unhide Hb] at HC hE
  have hne : (b != 0) = true := bne_iff_ne.2 hE
  clear hE
  go_enter Tryd.func36, Tryd.ntmps36
  go_wp2_with fail
  refine (unhide HC _).mono ?_
  rintro e w1 ⟨rfl, hw⟩
  replace hw := hw.symm
  subst hw
  go_wp2_with fail
  go_ret3
  exact ⟨.slice none 0 0, by rw [unhide Hb]; rfl, ⟨none, 0, rfl, by simp, .inl rfl⟩, Below.refl _ _⟩
end Go.Proofs.YtofbghdkmjhniaaDoor
