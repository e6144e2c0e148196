/- The contracts of the function that encoder.write puts a code point with, and of encoder.putNumber: the code points, or the signs of a number, stand behind those that stood. Condition of the second: strconv.Itoa answers numerals in that world. -/
import Derived.Test.YthhjfedegbldfadDoorEB
import Derived.Laws.IdiomStrings
namespace Go.Proofs.YthhjfedegbldfadDoor
open Go.RowKit
set_option linter.unusedVariables false

/-- strconv.Itoa answers the numeral of each scalar, in this world and in those that follow it. -/
def Tb (w : World) : Prop := ∀ w', Below w.heap.size w w' → ∀ p, M.sclr p = true → Calls Tryd.prog 73 #[.int .i64 p] w' fun e w'' => e = .returned (.string (strOfNums (M.digs p.toNat))) ∧ Below w'.heap.size w' w''
theorem Tb.below {w w1 : World} (h : Tb w) (hb : Below w.heap.size w w1) : Tb w1 := fun w' h' => h w' (bstep hb h')

/-- The code points xs lie in the variable at block B. -/
def Acc (B : Nat) (xs : List Int) (v : Value) (w : World) : Prop := w.heap[B]? = some (.cells #[v] 22 (0, 0)) ∧ w.ownsRow (B + 1) 3 1 v xs.length (xs.map (Value.int .i64)) ∧ B + 1 ≤ w.heap.size
theorem Acc.below {B : Nat} {xs : List Int} {v : Value} {w w' : World} (h : Acc B xs v w) (hb : Below w.heap.size w w') : Acc B xs v w' := by
  obtain ⟨h1, h2, h3⟩ := h
  exact ⟨(hb.block B (by omega)).trans h1, owns_below h2 hb, Nat.le_trans h3 hb.size⟩
/-- Rows of other things than integers stay. -/
def Kp (B : Nat) (w w' : World) : Prop := ∀ b c fz, b ≠ B → w.heap[b]? = some (.cells c 5 fz) → w'.heap[b]? = some (.cells c 5 fz)

theorem not_own {w : World} {base n : Nat} {v : Value} {xs : List Value} (h : w.ownsRow base 3 1 v n xs) {b : Nat} {c : Array Value} {fz : Nat × Nat} (hb : w.heap[b]? = some (.cells c 5 fz)) : some b ≠ v.ownBlock := by
  intro e
  rcases h.2 with ⟨hv, _⟩ | ⟨g, cap, cur, hv, _, hg, _⟩
  · rw [hv] at e; simp [Value.ownBlock] at e
  · rw [hv] at e
    simp only [Value.ownBlock, Option.some.injEq] at e
    subst e
    rw [hg] at hb
    simp at hb

set_option maxHeartbeats 400000 in
set_option maxRecDepth 100000 in
theorem push_any (B : Nat) (p : Int) (v : Value) (xs : List Int) (w : World) (hA : Acc B xs v w) (hn : xs.length ≤ 40000) :
    Calls Tryd.prog 51 #[.int .i64 p, .pointer (some ⟨B, 0, none⟩)] w fun e w' => e = .returned (.tuple #[]) ∧ ∃ v', Acc B (xs ++ [p]) v' w' ∧ Below B w w' ∧ Kp B w w' := by
  obtain ⟨hv, hown, hlt⟩ := hA
  have hc := cell_of_one hv
  have hf := free_of_one hv
  obtain ⟨i0, hi, hz0, hz1, hz2⟩ := info_parts info3
  have hB : B < w.heap.size := by omega
  have HV := hide hv
  have HNO := hide (fun (b : Nat) (c : Array Value) (fz : Nat × Nat) (h : w.heap[b]? = some (.cells c 5 fz)) => not_own hown h)
  clear hv
  go_enter Tryd.func51, Tryd.ntmps51
  go_wp2_with (at_builtin; refine wpList_append_own _ rfl (.tmp 3) (.tmp 5) 22 rfl (B + 1) 3 i0 (.int .i64 0) 1 8 Tryd.underlying22 hi hz0 hz1 hz2 rfl (by decide) _ _ _ rfl (hown.alloc _) ⟨w.heap.size, 0, none⟩ 1 1 [.int .i64 p] rfl rfl ?c1 ?c2 ?c3 ?c4 ?c5 ?_)
  case c1 =>
    intro j u hj
    match j, hj with
    | 0, hj => simp at hj; subst hj; simp [Addr.add]
  case c2 => intro u hu; simp at hu; subst hu; rfl
  case c3 => unfold maxLen; omega
  case c4 => omega
  case c5 => simp; omega
  intro v' w1 hown' hgrow _
  obtain ⟨ao', cap', rfl⟩ := owns_shape hown'
  have hne : some B ≠ v.ownBlock := fun e => by have := hown.lt B e.symm; omega
  have hv1 : w1.heap[B]? = some (.cells #[v] 22 (0, 0)) := by
    rw [hgrow.block B (by simp; omega) hne, Below.heap_alloc _ _ _ hB]
    exact unhide HV
  have hc1 := cell_of_one hv1
  have hf1 := free_of_one hv1
  have R1 := hide (one_setCell (u := .slice ao' (xs.length + 1) cap') hv1)
  have R2 := hide (ownsRow_setCell_below hown' (a := ⟨B, 0, none⟩) (show B < B + 1 by omega) (.slice ao' (xs.length + 1) cap'))
  have R3 : Below B w (w1.setCell ⟨B, 0, none⟩ (.slice ao' (xs.length + 1) cap')) := by
    have h1 := ((Below.refl B w).alloc (by omega) (.cells #[.int .i64 p] 3)).grown hgrow (by simp; omega) (fun k hk => by have := hown.lt k hk; omega)
    exact h1.setCell (Nat.le_refl _) _
  have R4 : Hid (Kp B w (w1.setCell ⟨B, 0, none⟩ (.slice ao' (xs.length + 1) cap'))) := hide (fun b c fz h2 h1 => by
    have hbl := lt_of_block h1
    rw [Below.heap_setCell _ _ _ _ h2, hgrow.block b (by simp; omega) (unhide HNO b c fz h1), Below.heap_alloc _ _ _ hbl]
    exact h1)
  have R5 : Hid (B + 1 ≤ (w1.setCell ⟨B, 0, none⟩ (.slice ao' (xs.length + 1) cap')).heap.size) := hide (Nat.le_trans hlt R3.size)
  have HR3 := hide R3
  clear hc hf hv1 HV hown hown' hgrow R3
  go_wp2_with fail
  go_end0
  exact ⟨rfl, _, ⟨unhide R1, by simpa using unhide R2, unhide R5⟩, unhide HR3, unhide R4⟩

theorem bytesRow_at (s : ByteArray) (cap j : Nat) (h : j < s.size) : (bytesRow s cap)[j]? = some (.int .u8 ((bl s).getD j 0)) := by
  have hb := bl_get s j h
  rw [List.getD_eq_getElem?_getD, hb]
  unfold bytesRow
  rw [Array.getElem?_append_left (by simp; exact h)]
  simp [h]
  rfl
/-- What a round of putNumber's loop knows. -/
def InN (B bb : Nat) (xs : List Int) (s : ByteArray) (C : Array Value) (fz : Nat × Nat) (w wr : World) (k : Nat) : Prop := (∃ v, Acc B (xs ++ (bl s).take k) v wr) ∧ Below B w wr ∧ wr.heap[bb]? = some (.cells C 5 fz)

set_option maxHeartbeats 800000 in
set_option maxRecDepth 100000 in
theorem putNumber_any (B : Nat) (p : Int) (v : Value) (xs : List Int) (w : World) (hT : Tb w) (hp : M.sclr p = true) (hA : Acc B xs v w) (hn : xs.length ≤ 30000) :
    Calls Tryd.prog 52 #[.int .i64 p, .func (Fn.func 51) #[] #[.pointer (some ⟨B, 0, none⟩)]] w fun e w' => e = .returned (.tuple #[]) ∧ ∃ v', Acc B (xs ++ M.tld p) v' w' ∧ Below B w w' := by
  have HT := hide (hT w (Below.refl _ _) p hp)
  have hz : (strOfNums (M.digs p.toNat)).size ≤ 7 := by rw [strOfNums_size]; exact M.digs_seven hp
  have HL : Hid (bl ((⟨#[38, 35]⟩ : ByteArray) ++ strOfNums (M.digs p.toNat) ++ (⟨#[59]⟩ : ByteArray)) = M.tld p) := hide (by
    rw [bl_app, bl_app, bl_str _ (fun x hx => by have := M.digs_bd _ x hx; omega)]
    unfold M.tld
    rw [show bl ⟨#[38, 35]⟩ = [38, 35] from by decide, show bl ⟨#[59]⟩ = [59] from by decide])
  have hBw : B ≤ w.heap.size := by have := hA.2.2; omega
  have HA := hide hA
  generalize strOfNums (M.digs p.toNat) = d at *
  clear hT hp hA
  have z2 : (⟨#[38, 35]⟩ : ByteArray).size = 2 := rfl
  have z1 : (⟨#[59]⟩ : ByteArray).size = 1 := rfl
  have hsz : ((⟨#[38, 35]⟩ : ByteArray) ++ d ++ (⟨#[59]⟩ : ByteArray)).size ≤ 10 := by rw [ByteArray.size_append, ByteArray.size_append, z1, z2]; omega
  go_enter Tryd.func52, Tryd.ntmps52
  go_wp2_with fail
  refine (unhide HT).mono ?_
  rintro e w1 ⟨rfl, hb1⟩
  have HB1 := hide hb1
  have HA1 := hide ((unhide HA).below hb1)
  clear hb1 HT HA
  have hcv := run_bytes_of_string (P := Tryd.prog) w1 9 68 5 ((⟨#[38, 35]⟩ : ByteArray) ++ d ++ (⟨#[59]⟩ : ByteArray)) Tryd.underlying9 Tryd.underlying68 Tryd.underlying5
  go_wp2_with fail
  have hsn : ((⟨#[38, 35]⟩ : ByteArray) ++ d ++ (⟨#[59]⟩ : ByteArray)).size = 2 + d.size + 1 := by rw [ByteArray.size_append, ByteArray.size_append, z1, z2]
  have HSN := hide hsn
  have HCl : Hid (∀ cap j, j < 2 + d.size + 1 → (bytesRow ((⟨#[38, 35]⟩ : ByteArray) ++ d ++ (⟨#[59]⟩ : ByteArray)) cap)[j]? = some (.int .u8 ((bl ((⟨#[38, 35]⟩ : ByteArray) ++ d ++ (⟨#[59]⟩ : ByteArray))).getD j 0))) := hide (fun cap j hj => bytesRow_at _ cap j (by rw [hsn]; exact hj))
  clear hcv hsn hsz
  generalize grownCap w1 (2 + d.size + 1) 0 5 = cap at *
  replace HCl := hide (unhide HCl cap)
  have HBy := hide (bl_byt ((⟨#[38, 35]⟩ : ByteArray) ++ d ++ (⟨#[59]⟩ : ByteArray)))
  generalize bytesRow ((⟨#[38, 35]⟩ : ByteArray) ++ d ++ (⟨#[59]⟩ : ByteArray)) cap = C at *
  obtain ⟨s, HS⟩ : ∃ s, Hid (((⟨#[38, 35]⟩ : ByteArray) ++ d ++ (⟨#[59]⟩ : ByteArray)) = s) := ⟨_, hide rfl⟩
  rw [unhide HS] at HL HSN HCl HBy
  have HBW : Hid (Below w1.heap.size w1 (w1.alloc (.cells C 5 (C.size, C.size + 1))).drew) := hide ((balloc _ _).drew)
  have HBB : Hid ((w1.alloc (.cells C 5 (C.size, C.size + 1))).drew.heap[w1.heap.size]? = some (.cells C 5 (C.size, C.size + 1))) := hide (heap_alloc_new w1 _)
  have HAW := hide ((unhide HA1).below (unhide HBW))
  have hBl : B < w1.heap.size := by have := (unhide HA1).2.2; omega
  generalize (w1.alloc (.cells C 5 (C.size, C.size + 1))).drew = W at *
  generalize (C.size, C.size + 1) = fz at *
  have HI : Hid (InN B w1.heap.size xs s C fz w W 0) := hide ⟨⟨v, by simpa using unhide HAW⟩, (bstep (unhide HB1) (unhide HBW)).mono hBw, unhide HBB⟩
  clear HAW HBW HBB
  go_loopw [12] (fun i wr => ∃ k : Nat, k ≤ 2 + d.size + 1 ∧ i = .int .i64 k ∧ InN B w1.heap.size xs s C fz w wr k) (fun i _ => 2 + d.size + 1 - (intOf i).toNat)
  case atStart => exact ⟨0, by omega, rfl, unhide HI⟩
  case round =>
    obtain ⟨k, hk, rfl, ⟨v2, hA2⟩, hB2, hh2⟩ := hrel
    clear HI
    by_cases hlt : k < 2 + d.size + 1
    · have hbd := unhide HBy ((bl s).getD k 0) (by rw [List.getD_eq_getElem?_getD, List.getElem?_eq_getElem (by rw [bl_len, unhide HSN]; exact hlt)]; simp)
      have hcl : wr.cell? ⟨w1.heap.size, k, none⟩ = some (.int .u8 ((bl s).getD k 0)) := by simp [World.cell?, hh2, unhide HCl k hlt]
      have hbr : w1.heap.size < wr.heap.size := lt_of_block hh2
      have HTk : Hid ((bl s).take (k + 1) = (bl s).take k ++ [(bl s).getD k 0]) := hide (take_snoc _ k (by rw [bl_len, unhide HSN]; exact hlt))
      have HZ : Hid ((xs ++ (bl s).take k).length ≤ 40000) := hide (by rw [List.length_append, List.length_take]; omega)
      have HH2 := hide hh2
      have HA2 := hide hA2
      have HB2 := hide hB2
      obtain ⟨c, HC⟩ : ∃ c, Hid ((bl s).getD k 0 = c) := ⟨_, hide rfl⟩
      rw [unhide HC] at hbd hcl HTk
      clear hA2 hB2 hh2
      go_wp2_with fail
      refine (push_any B c v2 _ _ (unhide HA2) (unhide HZ)).mono ?_
      rintro e w2 ⟨rfl, v3, hA3, hB3, hK3⟩
      have HI : Hid (InN B w1.heap.size xs s C fz w w2 (k + 1)) := hide ⟨⟨v3, by rw [unhide HTk, ← List.append_assoc]; exact hA3⟩, (unhide HB2).trans hB3, hK3 _ _ _ (by omega) (unhide HH2)⟩
      clear hA3 hB3 hK3
      go_wp2_with fail
      go_roundw
      case rel => exact ⟨k + 1, by omega, by go_num, unhide HI⟩
      case measure => simp [intOf]; omega
    · have HE : Hid ((bl s).take k = M.tld p) := hide (by rw [List.take_of_length_le (by rw [bl_len, unhide HSN]; omega), unhide HL])
      rw [unhide HE] at hA2
      have HA2 := hide hA2
      have HB2 := hide hB2
      clear hA2 hB2 hh2
      go_wp2_with fail
      go_end0
      exact ⟨rfl, v2, unhide HA2, unhide HB2⟩
end Go.Proofs.YthhjfedegbldfadDoor
