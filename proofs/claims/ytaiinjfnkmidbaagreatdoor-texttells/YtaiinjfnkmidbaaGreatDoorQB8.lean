/- Laws that the statements of this seat lean on, part 8 (EC SB SC ED EW Enc8 EE EH EI MR MathS6 EG TP6 MathC6 OW6 TX6): each a contract of a function, or a plain fact; conditions stand at each. -/
import Derived.BigQuiet
import Derived.Deep.QuietTactic
import Derived.Laws.AppendOwnNone
import Derived.Laws.BitsLemmas
import Derived.Laws.BytesArg
import Derived.Laws.IdiomStrings
import Derived.Maps.Own
import Derived.Maps.OwnOps
import Derived.Maps.OwnSet
import Derived.Maps.Views
import Derived.ProofKit
import Derived.WalkKit
import Derived.WalkSmall
import Derived.Test.YtaiinjfnkmidbaaGreatDoorRows
import Derived.Test.YtaiinjfnkmidbaaGreatDoorQB7
namespace Go.Proofs.YtaiinjfnkmidbaaGreatDoor
open Go.RowKit
set_option linter.unusedVariables false

/-- strconv.Itoa answers the numeral of each scalar, in this world and in those that follow it. -/
def Tb (w : World) : Prop := ∀ w', Below w.heap.size w w' → ∀ p, M.sclr p = true → Calls Tryz.prog 207 #[.int .i64 p] w' fun e w'' => e = .returned (.string (strOfNums (M.digs p.toNat))) ∧ Below w'.heap.size w' w''
theorem Tb.below {w w1 : World} (h : Tb w) (hb : Below w.heap.size w w1) : Tb w1 := fun w' h' => h w' (bstep hb h')

/-- The code points xs lie in the variable at block B. -/
def Acc (B : Nat) (xs : List Int) (v : Value) (w : World) : Prop := w.heap[B]? = some (.cells #[v] 31 (0, 0)) ∧ w.ownsRow (B + 1) 3 1 v xs.length (xs.map (Value.int .i64)) ∧ B + 1 ≤ w.heap.size
theorem Acc.below {B : Nat} {xs : List Int} {v : Value} {w w' : World} (h : Acc B xs v w) (hb : Below w.heap.size w w') : Acc B xs v w' := by
  obtain ⟨h1, h2, h3⟩ := h
  exact ⟨(hb.block B (by omega)).trans h1, owns_below h2 hb, Nat.le_trans h3 hb.size⟩
/-- Rows of other things than integers stay. -/
def Kp (B : Nat) (w w' : World) : Prop := ∀ b c fz, b ≠ B → w.heap[b]? = some (.cells c 5 fz) → w'.heap[b]? = some (.cells c 5 fz)

theorem not_own {w : World} {base n : Nat} {v : Value} {xs : List Value} (h : w.ownsRow base 3 1 v n xs) {b : Nat} {c : Array Value} {fz : Nat × Nat} (hb : w.heap[b]? = some (.cells c 5 fz)) : some b ≠ v.ownBlock := by
  intro e
  rcases h.2 with ⟨hv, _⟩ | ⟨g, cap, cur, hv, _, hg, _⟩
  · rw [hv] at e; simp [Value.ownBlock] at e
  · rw [hv] at e
    simp only [Value.ownBlock, Option.some.injEq] at e
    subst e
    rw [hg] at hb
    simp at hb

set_option maxHeartbeats 400000 in
set_option maxRecDepth 100000 in
theorem push_any (B : Nat) (p : Int) (v : Value) (xs : List Int) (w : World) (hA : Acc B xs v w) (hn : xs.length ≤ 40000) :
    Calls Tryz.prog 158 #[.int .i64 p, .pointer (some ⟨B, 0, none⟩)] w fun e w' => e = .returned (.tuple #[]) ∧ ∃ v', Acc B (xs ++ [p]) v' w' ∧ Below B w w' ∧ Kp B w w' := by
  obtain ⟨hv, hown, hlt⟩ := hA
  have hc := cell_of_one hv
  have hf := free_of_one hv
  obtain ⟨i0, hi, hz0, hz1, hz2⟩ := info_parts info3
  have hB : B < w.heap.size := by omega
  have HV := hide hv
  have HNO := hide (fun (b : Nat) (c : Array Value) (fz : Nat × Nat) (h : w.heap[b]? = some (.cells c 5 fz)) => not_own hown h)
  clear hv
  go_enter Tryz.func158, Tryz.ntmps158
  go_wp2_with (at_builtin; refine wpList_append_own _ rfl (.tmp 3) (.tmp 5) 31 rfl (B + 1) 3 i0 (.int .i64 0) 1 8 Tryz.underlying31 hi hz0 hz1 hz2 rfl (by decide) _ _ _ rfl (hown.alloc _) ⟨w.heap.size, 0, none⟩ 1 1 [.int .i64 p] rfl rfl ?c1 ?c2 ?c3 ?c4 ?c5 ?_)
  case c1 =>
    intro j u hj
    match j, hj with
    | 0, hj => simp at hj; subst hj; simp [Addr.add]
  case c2 => intro u hu; simp at hu; subst hu; rfl
  case c3 => unfold maxLen; omega
  case c4 => omega
  case c5 => simp; omega
  intro v' w1 hown' hgrow _
  obtain ⟨ao', cap', rfl⟩ := owns_shape hown'
  have hne : some B ≠ v.ownBlock := fun e => by have := hown.lt B e.symm; omega
  have hv1 : w1.heap[B]? = some (.cells #[v] 31 (0, 0)) := by
    rw [hgrow.block B (by simp; omega) hne, Below.heap_alloc _ _ _ hB]
    exact unhide HV
  have hc1 := cell_of_one hv1
  have hf1 := free_of_one hv1
  have R1 := hide (one_setCell (u := .slice ao' (xs.length + 1) cap') hv1)
  have R2 := hide (ownsRow_setCell_below hown' (a := ⟨B, 0, none⟩) (show B < B + 1 by omega) (.slice ao' (xs.length + 1) cap'))
  have R3 : Below B w (w1.setCell ⟨B, 0, none⟩ (.slice ao' (xs.length + 1) cap')) := by
    have h1 := ((Below.refl B w).alloc (by omega) (.cells #[.int .i64 p] 3)).grown hgrow (by simp; omega) (fun k hk => by have := hown.lt k hk; omega)
    exact h1.setCell (Nat.le_refl _) _
  have R4 : Hid (Kp B w (w1.setCell ⟨B, 0, none⟩ (.slice ao' (xs.length + 1) cap'))) := hide (fun b c fz h2 h1 => by
    have hbl := lt_of_block h1
    rw [Below.heap_setCell _ _ _ _ h2, hgrow.block b (by simp; omega) (unhide HNO b c fz h1), Below.heap_alloc _ _ _ hbl]
    exact h1)
  have R5 : Hid (B + 1 ≤ (w1.setCell ⟨B, 0, none⟩ (.slice ao' (xs.length + 1) cap')).heap.size) := hide (Nat.le_trans hlt R3.size)
  have HR3 := hide R3
  clear hc hf hv1 HV hown hown' hgrow R3
  go_wp2_with fail
  go_end0
  exact ⟨rfl, _, ⟨unhide R1, by simpa using unhide R2, unhide R5⟩, unhide HR3, unhide R4⟩

theorem bytesRow_at (s : ByteArray) (cap j : Nat) (h : j < s.size) : (bytesRow s cap)[j]? = some (.int .u8 ((bl s).getD j 0)) := by
  have hb := bl_get s j h
  rw [List.getD_eq_getElem?_getD, hb]
  unfold bytesRow
  rw [Array.getElem?_append_left (by simp; exact h)]
  simp [h]
  rfl
/-- What a round of putNumber's loop knows. -/
def InN (B bb : Nat) (xs : List Int) (s : ByteArray) (C : Array Value) (fz : Nat × Nat) (w wr : World) (k : Nat) : Prop := (∃ v, Acc B (xs ++ (bl s).take k) v wr) ∧ Below B w wr ∧ wr.heap[bb]? = some (.cells C 5 fz)

set_option maxHeartbeats 800000 in
set_option maxRecDepth 100000 in
theorem putNumber_any (B : Nat) (p : Int) (v : Value) (xs : List Int) (w : World) (hT : Tb w) (hp : M.sclr p = true) (hA : Acc B xs v w) (hn : xs.length ≤ 30000) :
    Calls Tryz.prog 159 #[.int .i64 p, .func (Fn.func 158) #[] #[.pointer (some ⟨B, 0, none⟩)]] w fun e w' => e = .returned (.tuple #[]) ∧ ∃ v', Acc B (xs ++ M.tld p) v' w' ∧ Below B w w' := by
  have HT := hide (hT w (Below.refl _ _) p hp)
  have hz : (strOfNums (M.digs p.toNat)).size ≤ 7 := by rw [strOfNums_size]; exact M.digs_seven hp
  have HL : Hid (bl ((⟨#[38, 35]⟩ : ByteArray) ++ strOfNums (M.digs p.toNat) ++ (⟨#[59]⟩ : ByteArray)) = M.tld p) := hide (by
    rw [bl_app, bl_app, bl_str _ (fun x hx => by have := M.digs_bd _ x hx; omega)]
    unfold M.tld
    rw [show bl ⟨#[38, 35]⟩ = [38, 35] from by decide, show bl ⟨#[59]⟩ = [59] from by decide])
  have hBw : B ≤ w.heap.size := by have := hA.2.2; omega
  have HA := hide hA
  generalize strOfNums (M.digs p.toNat) = d at *
  clear hT hp hA
  have z2 : (⟨#[38, 35]⟩ : ByteArray).size = 2 := rfl
  have z1 : (⟨#[59]⟩ : ByteArray).size = 1 := rfl
  have hsz : ((⟨#[38, 35]⟩ : ByteArray) ++ d ++ (⟨#[59]⟩ : ByteArray)).size ≤ 10 := by rw [ByteArray.size_append, ByteArray.size_append, z1, z2]; omega
  go_enter Tryz.func159, Tryz.ntmps159
  go_wp2_with fail
  refine (unhide HT).mono ?_
  rintro e w1 ⟨rfl, hb1⟩
  have HB1 := hide hb1
  have HA1 := hide ((unhide HA).below hb1)
  clear hb1 HT HA
  have hcv := run_bytes_of_string (P := Tryz.prog) w1 9 151 5 ((⟨#[38, 35]⟩ : ByteArray) ++ d ++ (⟨#[59]⟩ : ByteArray)) Tryz.underlying9 Tryz.underlying151 Tryz.underlying5
  go_wp2_with fail
  have hsn : ((⟨#[38, 35]⟩ : ByteArray) ++ d ++ (⟨#[59]⟩ : ByteArray)).size = 2 + d.size + 1 := by rw [ByteArray.size_append, ByteArray.size_append, z1, z2]
  have HSN := hide hsn
  have HCl : Hid (∀ cap j, j < 2 + d.size + 1 → (bytesRow ((⟨#[38, 35]⟩ : ByteArray) ++ d ++ (⟨#[59]⟩ : ByteArray)) cap)[j]? = some (.int .u8 ((bl ((⟨#[38, 35]⟩ : ByteArray) ++ d ++ (⟨#[59]⟩ : ByteArray))).getD j 0))) := hide (fun cap j hj => bytesRow_at _ cap j (by rw [hsn]; exact hj))
  clear hcv hsn hsz
  generalize grownCap w1 (2 + d.size + 1) 0 5 = cap at *
  replace HCl := hide (unhide HCl cap)
  have HBy := hide (bl_byt ((⟨#[38, 35]⟩ : ByteArray) ++ d ++ (⟨#[59]⟩ : ByteArray)))
  generalize bytesRow ((⟨#[38, 35]⟩ : ByteArray) ++ d ++ (⟨#[59]⟩ : ByteArray)) cap = C at *
  obtain ⟨s, HS⟩ : ∃ s, Hid (((⟨#[38, 35]⟩ : ByteArray) ++ d ++ (⟨#[59]⟩ : ByteArray)) = s) := ⟨_, hide rfl⟩
  rw [unhide HS] at HL HSN HCl HBy
  have HBW : Hid (Below w1.heap.size w1 (w1.alloc (.cells C 5 (C.size, C.size + 1))).drew) := hide ((balloc _ _).drew)
  have HBB : Hid ((w1.alloc (.cells C 5 (C.size, C.size + 1))).drew.heap[w1.heap.size]? = some (.cells C 5 (C.size, C.size + 1))) := hide (heap_alloc_new w1 _)
  have HAW := hide ((unhide HA1).below (unhide HBW))
  have hBl : B < w1.heap.size := by have := (unhide HA1).2.2; omega
  generalize (w1.alloc (.cells C 5 (C.size, C.size + 1))).drew = W at *
  generalize (C.size, C.size + 1) = fz at *
  have HI : Hid (InN B w1.heap.size xs s C fz w W 0) := hide ⟨⟨v, by simpa using unhide HAW⟩, (bstep (unhide HB1) (unhide HBW)).mono hBw, unhide HBB⟩
  clear HAW HBW HBB
  go_loopw [12] (fun i wr => ∃ k : Nat, k ≤ 2 + d.size + 1 ∧ i = .int .i64 k ∧ InN B w1.heap.size xs s C fz w wr k) (fun i _ => 2 + d.size + 1 - (intOf i).toNat)
  case atStart => exact ⟨0, by omega, rfl, unhide HI⟩
  case round =>
    obtain ⟨k, hk, rfl, ⟨v2, hA2⟩, hB2, hh2⟩ := hrel
    clear HI
    by_cases hlt : k < 2 + d.size + 1
    · have hbd := unhide HBy ((bl s).getD k 0) (by rw [List.getD_eq_getElem?_getD, List.getElem?_eq_getElem (by rw [bl_len, unhide HSN]; exact hlt)]; simp)
      have hcl : wr.cell? ⟨w1.heap.size, k, none⟩ = some (.int .u8 ((bl s).getD k 0)) := by simp [World.cell?, hh2, unhide HCl k hlt]
      have hbr : w1.heap.size < wr.heap.size := lt_of_block hh2
      have HTk : Hid ((bl s).take (k + 1) = (bl s).take k ++ [(bl s).getD k 0]) := hide (take_snoc _ k (by rw [bl_len, unhide HSN]; exact hlt))
      have HZ : Hid ((xs ++ (bl s).take k).length ≤ 40000) := hide (by rw [List.length_append, List.length_take]; omega)
      have HH2 := hide hh2
      have HA2 := hide hA2
      have HB2 := hide hB2
      obtain ⟨c, HC⟩ : ∃ c, Hid ((bl s).getD k 0 = c) := ⟨_, hide rfl⟩
      rw [unhide HC] at hbd hcl HTk
      clear hA2 hB2 hh2
      go_wp2_with fail
      refine (push_any B c v2 _ _ (unhide HA2) (unhide HZ)).mono ?_
      rintro e w2 ⟨rfl, v3, hA3, hB3, hK3⟩
      have HI : Hid (InN B w1.heap.size xs s C fz w w2 (k + 1)) := hide ⟨⟨v3, by rw [unhide HTk, ← List.append_assoc]; exact hA3⟩, (unhide HB2).trans hB3, hK3 _ _ _ (by omega) (unhide HH2)⟩
      clear hA3 hB3 hK3
      go_wp2_with fail
      go_roundw
      case rel => exact ⟨k + 1, by omega, by go_num, unhide HI⟩
      case measure => simp [intOf]; omega
    · have HE : Hid ((bl s).take k = M.tld p) := hide (by rw [List.take_of_length_le (by rw [bl_len, unhide HSN]; omega), unhide HL])
      rw [unhide HE] at hA2
      have HA2 := hide hA2
      have HB2 := hide hB2
      clear hA2 hB2 hh2
      go_wp2_with fail
      go_end0
      exact ⟨rfl, v2, unhide HA2, unhide HB2⟩
end Go.Proofs.YtaiinjfnkmidbaaGreatDoor

namespace Go.Proofs.YtaiinjfnkmidbaaGreatDoor
open Go.RowKit Go.Maps
set_option linter.unusedVariables false

theorem law3 : Keyed Tryz.prog 3 := int_keyed Tryz.underlying3
theorem zero5 (w : World) : (zeroValue 5).run Tryz.prog w = .ok (.int .u8 0) w := by kernel_rfl

/-- The map of the first k bytes' code points. -/
def Dk (user : Bool) : Nat → DataW Unit
  | 0 => .map []
  | k + 1 => (Dk user k).put (.int .i64 (M.pt user k)) (.lit (.int .u8 k))

theorem Dk_map (user : Bool) : ∀ k, IsMap (Dk user k)
  | 0 => isMap_empty
  | k + 1 => (Dk_map user k).put _ _
theorem lit_ne {a b : Int} (h : a ≠ b) : (Lit.int .i64 a) ≠ .int .i64 b := fun e => h (by injection e)

theorem Dk_has (user : Bool) (n : Int) : ∀ k, Maps.has (Dk user k) (.int .i64 n) = (List.range k).any (fun c => M.pt user (c : Nat) == n)
  | 0 => by simp [Dk, Maps.has]
  | k + 1 => by
    rw [List.range_succ, List.any_append, ← Dk_has user n k]
    by_cases h : M.pt user k = n
    · subst h
      rw [Dk, has_put_same (Dk_map user k) (by trivial)]
      simp
    · rw [Dk, has_put_other (lit_ne (fun e => h e.symm))]
      simp [h]

theorem Dk_at (user : Bool) {j : Nat} : ∀ k, j < k → k ≤ 256 → (Dk user k).atKey (.int .i64 (M.pt user j)) (.lit (.int .u8 0)) = .lit (.int .u8 j)
  | 0, h, _ => by omega
  | k + 1, h, hk => by
    by_cases e : j = k
    · subst e
      rw [Dk, atKey_put_same (Dk_map user j) (by trivial)]
    · rw [Dk, atKey_put_other (lit_ne (fun e' => e (M.pt_inj user (by omega) (by omega) e')))]
      exact Dk_at user k (by omega) (by omega)

theorem D_has (user : Bool) (n : Int) : Maps.has (Dk user 256) (.int .i64 n) = M.hasB user n := Dk_has user n 256
theorem D_at (user : Bool) {n : Int} (h : M.hasB user n = true) : (Dk user 256).atKey (.int .i64 n) (.lit (.int .u8 0)) = .lit (.int .u8 (M.bof user n)) := by
  obtain ⟨k, hk, e, hp⟩ := M.bof_spec user h
  rw [e, ← hp]
  exact Dk_at user 256 hk (by omega)

/-- Block b is the map of all bytes. -/
def IsB (user : Bool) (w : World) (b : Nat) : Prop := w.ownsMap Tryz.prog 3 (plainElem (H := Unit) Tryz.prog 5) b 256 (Dk user 256)
theorem IsB.below {user : Bool} {w w' : World} {b B : Nat} (h : IsB user w b) (hb : Below B w w') (hB : b < B) : IsB user w' b := by
  obtain ⟨es, clock, h1, h2⟩ := h
  exact ⟨es, clock, (hb.block b hB).trans h1, h2⟩
theorem IsB.lt {user : Bool} {w : World} {b : Nat} (h : IsB user w b) : b < w.heap.size := by
  obtain ⟨es, clock, h1, _⟩ := h
  exact lt_of_block h1

set_option maxHeartbeats 400000 in
set_option maxRecDepth 100000 in
theorem bytesOf_any (user : Bool) (w : World) : Calls Tryz.prog 228 #[.bool user] w fun e w' => e = .returned (.map (some w.heap.size)) ∧ IsB user w' w.heap.size ∧ Below w.heap.size w w' := by
  have hmm : ∀ w : World, (Instr.makeMap 206 (some (.int .i64 256))).run Tryz.prog w = .ok (.map (some w.heap.size)) (w.alloc (.map #[] 0)) := fun w => rfl
  go_enter Tryz.func228, Tryz.ntmps228
  go_wp2_with fail
  refine (pointsOf_any user _).mono ?_
  rintro e w1 ⟨v1, rfl, hI1, hb1⟩
  obtain ⟨ao1, cap1, hsh1, -, -, hc1⟩ := hI1
  subst hsh1
  rw [M.tblOf_len]
  rw [M.tblOf_len] at hc1
  obtain ⟨b, off, rfl, hcc⟩ : ∃ b off, ao1 = some ⟨b, off, none⟩ ∧ ∀ i, i < 256 → w1.cell? ⟨b, off + i, none⟩ = some (.int .i64 ((M.tblOf user 256).getD i 0)) := by
    rcases hc1 with h | h
    · have := congrArg List.length h; rw [M.tblOf_len] at this; simp at this
    · exact h
  have hmap : w1.heap[w.heap.size]? = some (.map #[] 0) := (hb1.block _ (by simp)).trans (heap_alloc_new _ _)
  have hne : b ≠ w.heap.size := by
    intro e
    have := hcc 0 (by omega)
    rw [e] at this
    simp [World.cell?, hmap] at this
  have hown0 : w1.ownsMap Tryz.prog 3 (plainElem (H := Unit) Tryz.prog 5) w.heap.size 0 (Dk user 0) := by
    obtain ⟨es, clock, h1, h2⟩ := World.ownsMap_made (H := Unit) w Tryz.prog 3 (plainElem (H := Unit) Tryz.prog 5)
    exact ⟨es, clock, (hb1.block _ (by simp)).trans h1, h2⟩
  have hbl : b < w1.heap.size := World.block_lt_of_cell? w1 _ (hcc 0 (by omega))
  have HI : Hid (w1.ownsMap Tryz.prog 3 (plainElem (H := Unit) Tryz.prog 5) w.heap.size 0 (Dk user 0) ∧ (∀ i, i < 256 → w1.cell? ⟨b, off + i, none⟩ = some (.int .i64 ((M.tblOf user 256).getD i 0))) ∧ Below w.heap.size w w1) := hide ⟨hown0, hcc, bstep (balloc _ _) hb1⟩
  clear hc1 hcc hown0 hmap hb1
  go_wp2_with fail
  go_loopw [10] (fun i wr => ∃ k : Nat, k ≤ 256 ∧ i = .int .i64 k ∧ Hid (wr.ownsMap Tryz.prog 3 (plainElem (H := Unit) Tryz.prog 5) w.heap.size k (Dk user k) ∧ (∀ i, i < 256 → wr.cell? ⟨b, off + i, none⟩ = some (.int .i64 ((M.tblOf user 256).getD i 0))) ∧ Below w.heap.size w wr)) (fun i _ => 256 - (intOf i).toNat)
  case atStart => exact ⟨0, by omega, rfl, HI⟩
  case round =>
    obtain ⟨k, hk, rfl, HJ⟩ := hrel
    clear HI
    obtain ⟨hown, hcl, hbw⟩ := unhide HJ
    by_cases hlt : k < 256
    · have hcell := hcl k hlt
      rw [M.tblOf_get user hlt] at hcell
      have hpb := M.pt_bd user hlt
      have HS : Hid (Dk user (k + 1) = (Dk user k).put (.int .i64 (M.pt user k)) (.lit (.int .u8 k))) := hide rfl
      have hkey : keyOf Tryz.prog 3 (.int .i64 (M.pt user k)) = some (.int .i64 (M.pt user k)) := keyOf_int_mk Tryz.underlying3 (WalkArith.wf_i64 (by omega))
      have hwf : (Lit.int .u8 (k : Int)).wf = true := WalkArith.wf_u8 (by omega)
      obtain ⟨p, HP⟩ : ∃ p, Hid (M.pt user (k : Int) = p) := ⟨_, rfl⟩
      rw [unhide HP] at hcell hpb hkey HS
      have hbr : b < wr.heap.size := World.block_lt_of_cell? wr _ hcell
      have HCL := hide hcl
      have HBW := hide hbw
      clear hcl hbw
      go_wp2_with (at_mapUpdate; refine wpList_mapUpdate_own _ rfl _ _ _ 206 rfl 3 5 law3 Tryz.underlying206 _ w.heap.size k _ rfl hown (by unfold maxLen; omega) _ _ _ rfl rfl hkey _ [] (plainElem_int Tryz.underlying5 hwf) ?_)
      intro w2 hown2 hgrow
      have HK : Hid (w2.ownsMap Tryz.prog 3 (plainElem (H := Unit) Tryz.prog 5) w.heap.size (k + 1) (Dk user (k + 1)) ∧ (∀ i, i < 256 → w2.cell? ⟨b, off + i, none⟩ = some (.int .i64 ((M.tblOf user 256).getD i 0))) ∧ Below w.heap.size w w2) := by
        refine hide ⟨by rw [unhide HS]; exact hown2, fun i hi => ?_, (unhide HBW).grown hgrow (unhide HBW).size (fun j hj => by cases hj; exact Nat.le_refl _)⟩
        rw [← unhide HCL i hi]
        have := hgrow.block b hbr (fun e => hne (by injection e))
        simp only [World.cell?, this]
      clear hown hown2 hgrow
      go_wp2_with fail
      go_roundw
      case rel => exact ⟨k + 1, by omega, by go_num, HK⟩
      case measure => simp [intOf]; omega
    · have ek : k = 256 := by omega
      subst ek
      go_wp2_with fail
      go_ret
      exact ⟨rfl, hown, hbw⟩

theorem lit_inj {a b : Int} (h : (DataW.lit (.int .u8 a) : DataW Unit) = .lit (.int .u8 b)) : b = a := by
  injection h with e
  injection e with _ e
  exact e.symm

end Go.Proofs.YtaiinjfnkmidbaaGreatDoor

namespace Go.Proofs.YtaiinjfnkmidbaaGreatDoor
open Go.RowKit Go.Maps
set_option linter.unusedVariables false

/-- What Encode answers of at most 3000 integers. -/
def encResS (user : Bool) (xs : List Int) : Value := if xs.all (M.hasB user) then .tuple #[.string (strOfNums (M.encS user xs)), .int .i64 0] else .tuple #[.string ⟨#[]⟩, .int .i64 5]
theorem encResS_yes {user : Bool} {xs : List Int} (h : xs.all (M.hasB user) = true) : encResS user xs = .tuple #[.string (strOfNums (M.encS user xs)), .int .i64 0] := by unfold encResS; rw [if_pos h]
theorem encResS_no {user : Bool} {xs : List Int} (h : xs.all (M.hasB user) = false) : encResS user xs = .tuple #[.string ⟨#[]⟩, .int .i64 5] := by unfold encResS; rw [if_neg (by simp [h])]

/-- What a round of Encode's loop knows. -/
def InTS (user : Bool) (xs : List Int) (w wr : World) (k : Nat) (v : Value) : Prop :=
  wr.ownsRow w.heap.size 5 1 v (M.encS user (xs.take k)).length ((M.encS user (xs.take k)).map (Value.int .u8)) ∧ Below w.heap.size w wr ∧ (xs.take k).all (M.hasB user) = true

theorem InTS.step {user : Bool} {xs : List Int} {w wr w2 : World} {k : Nat} {v v2 : Value} {p c : Int} (h : InTS user xs w wr k v) (hk : k < xs.length) (hp : xs.getD k 0 = p) (hs : M.hasB user p = true) (hc : M.bof user p = c)
    (ho : w2.ownsRow w.heap.size 5 1 v2 (M.encS user (xs.take k) ++ [c]).length ((M.encS user (xs.take k) ++ [c]).map (Value.int .u8))) (hb : Below w.heap.size wr w2) : InTS user xs w w2 (k + 1) v2 := by
  refine ⟨?_, h.2.1.trans hb, ?_⟩
  · rw [take_snoc xs k hk, M.encS_snoc, hp, hc]; exact ho
  · rw [take_snoc xs k hk, List.all_append, h.2.2, hp]; simpa using hs

set_option maxHeartbeats 400000 in
set_option maxRecDepth 100000 in
theorem encodeS_any (user : Bool) {v : Value} {xs : List Int} (w : World) (hx : Ints w v xs) (hwf : ∀ n ∈ xs, (Lit.int .i64 n).wf = true) (h : xs.length ≤ 3000) :
    Calls Tryz.prog 208 #[.bool user, v] w fun e w' => e = .returned (encResS user xs) ∧ Below w.heap.size w w' := by
  obtain ⟨ao, cap, rfl, hm, -, hc⟩ := id hx
  obtain ⟨i0, hi, hz0, hz1, hz2⟩ := info_parts info5
  clear hx
  have HC := hide hc
  have HWF := hide hwf
  clear hc hwf
  go_enter Tryz.func208, Tryz.ntmps208
  go_wp2_with fail
  refine (bytesOf_any user _).mono ?_
  rintro e w1 ⟨rfl, hB1, hb1⟩
  have hlt1 := hB1.lt
  have HB1 := hide hB1
  have HI : Hid (InTS user xs w1 w1 0 (.slice none 0 0)) := hide ⟨World.ownsRow_nil _ _ _ _, Below.refl _ _, by simp⟩
  have HBW := hide hb1
  clear hB1 hb1
  go_wp2_with fail
  go_loopw [7, 19] (fun v i wr => ∃ k : Nat, k ≤ xs.length ∧ i = .int .i64 k ∧ InTS user xs w1 wr k v) (fun _ i _ => xs.length - (intOf i).toNat)
  case atStart => exact ⟨0, by omega, rfl, unhide HI⟩
  case round =>
    obtain ⟨k, hk, rfl, hI⟩ := hrel
    clear HI
    have hz := hI.2.1.size
    have hl : Hid ((M.encS user (xs.take k)).length = k) := hide (by rw [M.encS_len, List.length_take]; omega)
    by_cases hlt : k < xs.length
    · obtain ⟨b, off, rfl, hc⟩ : ∃ b off, ao = some ⟨b, off, none⟩ ∧ ∀ i, i < xs.length → w.cell? ⟨b, off + i, none⟩ = some (.int .i64 (xs.getD i 0)) := by
        rcases unhide HC with h | h
        · subst h; simp at hlt
        · exact h
      have hcell : wr.cell? ⟨b, off + k, none⟩ = some (.int .i64 (xs.getD k 0)) := ((bstep (unhide HBW) hI.2.1).cell (p := ⟨b, off + k, none⟩) (World.block_lt_of_cell? w _ (hc k hlt))).trans (hc k hlt)
      have hbr : b < wr.heap.size := World.block_lt_of_cell? wr _ hcell
      have hpw := unhide HWF (xs.getD k 0) (by simp [hlt])
      obtain ⟨p, HP⟩ : ∃ p, Hid (xs.getD k 0 = p) := ⟨_, rfl⟩
      rw [unhide HP] at hcell hpw
      have hkey : keyOf Tryz.prog 3 (.int .i64 p) = some (.int .i64 p) := keyOf_int_mk Tryz.underlying3 hpw
      have hown : wr.ownsMap Tryz.prog 3 (plainElem (H := Unit) Tryz.prog 5) w.heap.size 256 (Dk user 256) := (unhide HB1).below hI.2.1 hlt1
      obtain ⟨q, HQ⟩ : ∃ q, Hid (M.hasB user p = q) := ⟨_, rfl⟩
      have hq : Maps.has (Dk user 256) (.int .i64 p) = q := (D_has user p).trans (unhide HQ)
      obtain ⟨ao2, cap2, hsh⟩ := owns_shape hI.1
      subst hsh
      clear hc hpw
      cases q
      · go_wp2_with (at_lookup; refine wpList_lookup_own_ok_int _ rfl _ _ 206 rfl 3 5 .u8 law3 Tryz.underlying206 Tryz.underlying5 (zero5 _) w.heap.size 256 _ rfl hown _ _ rfl hkey ?_; intro c hat hwc)
        go_ret2
        refine ⟨?_, bstep (unhide HBW) hI.2.1⟩
        have : xs.all (M.hasB user) = false := by
          rw [List.all_eq_false]
          refine ⟨xs.getD k 0, by simp [hlt], by rw [unhide HP, unhide HQ]; simp⟩
        rw [encResS_no this]; rfl
      · have hbd := M.bof_bd user (unhide HQ)
        have HAT := hide (D_at user (unhide HQ))
        obtain ⟨B, HB⟩ : ∃ B, Hid (M.bof user p = B) := ⟨_, rfl⟩
        rw [unhide HB] at hbd HAT
        have hI' := hI.1
        go_wp2_with (first | (at_lookup; refine wpList_lookup_own_ok_int _ rfl _ _ 206 rfl 3 5 .u8 law3 Tryz.underlying206 Tryz.underlying5 (zero5 _) w.heap.size 256 _ rfl hown _ _ rfl hkey ?_; intro c hat hwc; have hcB : c = B := lit_inj ((unhide HAT).symm.trans hat); subst hcB; clear hat hwc) | (at_builtin; refine wpList_append_own _ rfl (.tmp 31) (.tmp 33) 151 rfl w1.heap.size 5 i0 (.int .u8 0) 1 1 Tryz.underlying151 hi hz0 hz1 hz2 rfl (by decide) _ _ _ rfl (hI'.alloc _) ⟨wr.heap.size, 0, none⟩ 1 1 [.int .u8 c] rfl rfl ?c1 ?c2 ?c3 ?c4 ?c5 ?_))
        case c1 =>
          intro j u hj
          match j, hj with
          | 0, hj => simp at hj; subst hj; simp [Addr.add]
        case c2 => intro u hu; simp at hu; subst hu; rfl
        case c3 => have := unhide hl; unfold maxLen; omega
        case c4 => have := unhide hl; omega
        case c5 => simp; omega
        intro v' w2 hown' hgrow _
        obtain ⟨ao', cap', rfl⟩ := owns_shape hown'
        have HJ : Hid (InTS user xs w1 w2 (k + 1) (.slice ao' ((M.encS user (xs.take k)).length + 1) cap')) := hide (hI.step hlt (unhide HP) (unhide HQ) (unhide HB) (by simpa using hown') (((Below.refl _ _).alloc hz _).grown hgrow (by simp; omega) (fun j hj => by have := hI'.lt j hj; omega)))
        clear hI hI' hown hown' hgrow
        go_wp2_with fail
        go_roundw
        case rel => exact ⟨k + 1, by omega, by go_num, by simpa using unhide HJ⟩
        case measure => simp [intOf]; omega
    · have ek : k = xs.length := by omega
      have hcv := conv_owned hI.1
      obtain ⟨o1, o2, o3⟩ := hI
      have hb := hide (bstep (unhide HBW) o2)
      have et : xs.take k = xs := List.take_of_length_le (by omega)
      rw [et] at hcv o1 o3
      obtain ⟨ao2, cap2, hsh⟩ := owns_shape o1
      subst hsh
      have HA := hide o3
      clear o1 o2 o3 et hl
      go_wp2_with fail
      go_ret2
      refine ⟨?_, unhide hb⟩
      rw [encResS_yes (unhide HA)]; rfl
end Go.Proofs.YtaiinjfnkmidbaaGreatDoor

namespace Go.Proofs.YtaiinjfnkmidbaaGreatDoor
open Go.RowKit
set_option linter.unusedVariables false

set_option maxHeartbeats 400000 in
set_option maxRecDepth 100000 in
theorem bytesOfK_any (v : Value) (xs : List Int) (w : World) (hI : Ints w v xs) (hlen : xs.length ≤ 30000) (hgi : ∀ n ∈ xs, Gi n) (ha : xs.all M.anyK = true) :
    Calls Tryz.prog 160 #[.int .i64 6, v] w fun e w' => e = .returned (.string (strOfNums (M.kenc xs))) ∧ Below w.heap.size w w' := by
  have H := hide (write_any v xs w hI hlen hgi)
  rw [wrote_yes ha] at H
  obtain ⟨ao, cap, rfl, -, -, -⟩ := hI
  clear hgi ha
  go_enter Tryz.func160, Tryz.ntmps160
  go_wp2_with fail
  refine (unhide H).mono ?_
  rintro e w1 ⟨rfl, hb⟩
  have HB := hide hb
  clear hb H
  go_wp2_with fail
  go_ret
  exact ⟨rfl, unhide HB⟩

/-- What a round of bytesOf's loop knows. -/
def InO (user : Bool) (xs : List Int) (w wr : World) (k : Nat) (v : Value) : Prop :=
  wr.ownsRow w.heap.size 5 1 v (M.encS user (xs.take k)).length ((M.encS user (xs.take k)).map (Value.int .u8)) ∧ Below w.heap.size w wr

set_option maxHeartbeats 800000 in
set_option maxRecDepth 100000 in
theorem bytesOfS_any (user : Bool) (n : Int) (hn : n = if user then 5 else 4) (base : Nat) (v : Value) (xs : List Int) (w : World) (hown : w.ownsRow base 3 1 v xs.length (xs.map (Value.int .i64))) (hlen : xs.length ≤ 30000) (hwf : ∀ n ∈ xs, (Lit.int .i64 n).wf = true) (ha : xs.all (M.hasB user) = true) :
    Calls Tryz.prog 160 #[.int .i64 n, v] w fun e w' => e = .returned (.string (strOfNums (M.encS user xs))) ∧ Below w.heap.size w w' := by
  have hcl : xs.length ≠ 0 → ∃ g cap, v = .slice (some ⟨g, 0, none⟩) xs.length cap ∧ xs.length ≤ cap ∧ ∀ i, i < xs.length → w.cell? ⟨g, i, none⟩ = some (.int .i64 (xs.getD i 0)) := by
    intro h0
    rcases hown.2 with ⟨_, h⟩ | ⟨g, cap, cur, hv, _, hg, hnc, _⟩
    · exact absurd h h0
    · refine ⟨g, cap, hv, hnc, ?_⟩
      obtain ⟨ao, cap', h1, _, _, h2⟩ := Ints.of_owns hown
      rw [hv] at h1
      cases h1
      rcases h2 with rfl | ⟨b, off, h2, h3⟩
      · simp at h0
      · cases h2
        intro i hi
        have := h3 i hi
        rwa [Nat.zero_add] at this
  obtain ⟨ao, cap, rfl⟩ := owns_shape hown
  have HC := hide hcl
  have HW := hide hwf
  have HA := hide ha
  have h6 : (n == 6) = false := by subst hn; cases user <;> rfl
  have h5 : (n == 5) = user := by subst hn; cases user <;> rfl
  have HI : Hid (InO user xs w w 0 (.slice none 0 0)) := hide ⟨World.ownsRow_nil _ _ _ _, Below.refl _ _⟩
  clear hcl hwf ha hown hn
  go_enter Tryz.func160, Tryz.ntmps160
  go_wp2_with fail
  go_loopw [7, 8] (fun v i wr => ∃ k : Nat, k ≤ xs.length + 3000 ∧ i = .int .i64 k ∧ InO user xs w wr k v) (fun _ i _ => xs.length + 3000 - (intOf i).toNat)
  case atStart => exact ⟨0, by omega, rfl, unhide HI⟩
  case round =>
    obtain ⟨k, hk, rfl, hI⟩ := hrel
    clear HI
    have hz := hI.2.size
    obtain ⟨av, capv, hsh⟩ := owns_shape hI.1
    subst hsh
    by_cases hlt : k < xs.length
    · obtain ⟨g, cap', hv, hnc, hcs⟩ := unhide HC (by omega)
      cases hv
      obtain ⟨m, hm⟩ : ∃ m : Nat, m = min (k + 3000) xs.length := ⟨_, rfl⟩
      have hmin : min ((k : Int) + 3000) (xs.length : Int) = (m : Int) := by rw [hm]; omega
      have hmc : m ≤ cap := by omega
      have hkm : k ≤ m := by omega
      have hkc : ¬ (cap = k) := by omega
      have HM := hide hm
      have HIs : Hid (Ints wr (.slice (some ⟨g, k, none⟩) (m - k) (cap - k)) ((xs.drop k).take 3000)) := hide (by
        refine ⟨some ⟨g, k, none⟩, cap - k, ?_, ?_, (fun h => by cases h), .inr ⟨g, k, rfl, fun i hi => ?_⟩⟩
        · rw [List.length_take, List.length_drop]; congr 1; omega
        · rw [List.length_take, List.length_drop]; unfold maxLen; omega
        · rw [List.length_take, List.length_drop] at hi
          have hk1 := hcs (k + i) (by omega)
          rw [hI.2.cell (p := ⟨g, k + i, none⟩) (World.block_lt_of_cell? w _ hk1), hk1]
          congr 2
          rw [List.getD_eq_getElem?_getD, List.getD_eq_getElem?_getD, List.getElem?_take, if_pos (by omega), List.getElem?_drop])
      have HAl : Hid (((xs.drop k).take 3000).all (M.hasB user) = true) := hide (by
        rw [List.all_eq_true]
        intro x hx
        exact List.all_eq_true.1 (unhide HA) x (List.mem_of_mem_drop (List.mem_of_mem_take hx)))
      have HE := hide (encodeS_any user wr (unhide HIs) (fun n hn => unhide HW n (List.mem_of_mem_drop (List.mem_of_mem_take hn))) (by rw [List.length_take]; omega))
      rw [encResS_yes (unhide HAl)] at HE
      have HT : Hid (M.encS user (xs.take (k + 3000)) = M.encS user (xs.take k) ++ M.encS user ((xs.drop k).take 3000)) := hide (by
        rw [List.take_add]; unfold M.encS; rw [List.map_append])
      have HBy : Hid (∀ x ∈ M.encS user ((xs.drop k).take 3000), 0 ≤ x ∧ x ≤ 255) := hide (M.encS_byt user _ (unhide HAl))
      have hl1 : Hid ((M.encS user (xs.take k)).length ≤ 30000) := hide (by rw [M.encS_len, List.length_take]; omega)
      have hl2 : Hid ((M.encS user ((xs.drop k).take 3000)).length ≤ 3000) := hide (by rw [M.encS_len, List.length_take]; omega)
      have HO := hide hI.1
      have HB := hide hI.2
      clear hI hcs hm HIs HAl
      generalize M.encS user ((xs.drop k).take 3000) = ms at *
      generalize M.encS user (xs.take k) = ns at *
      have hl1' := unhide hl1
      have hl2' := unhide hl2
      go_wp2_with fail
      refine (unhide HE).mono ?_
      rintro e w1 ⟨rfl, hb1⟩
      have hz1 := hb1.size
      have HB1 := hide hb1
      have HO1 := hide (owns_below (unhide HO) hb1)
      clear hb1 HE HO
      go_wp2_with (at_builtin; refine append_str rfl (.tmp 39) (.tmp 40) rfl w.heap.size _ ns rfl (unhide HO1) ms (unhide HBy) rfl (by omega) (by omega) ?_)
      intro ao2 cap2 w2 ho2 hb2
      have HJ : Hid (InO user xs w w2 (k + 3000) (.slice ao2 (ns ++ ms).length cap2)) := hide ⟨by rw [unhide HT]; simpa using ho2, (bstep (unhide HB) (unhide HB1)).trans hb2⟩
      clear ho2 hb2
      go_wp2_with fail
      go_roundw
      case rel => exact ⟨k + 3000, by omega, by go_num, by simpa using unhide HJ⟩
      case measure => simp [intOf]; omega
    · have HT : Hid (xs.take k = xs) := hide (List.take_of_length_le (by omega))
      unfold InO at hI
      rw [unhide HT] at hI ⊢
      have hcv := conv_owned hI.1
      have HB := hide hI.2
      clear hI
      go_wp2_with fail
      go_ret
      exact ⟨rfl, unhide HB⟩
end Go.Proofs.YtaiinjfnkmidbaaGreatDoor

namespace Go.Proofs.YtaiinjfnkmidbaaGreatDoor
open Go.RowKit
set_option linter.unusedVariables false

/-- What write answers. -/
def resW (n mode : Int) (xs : List Int) : Value := if mode = 1 ∨ xs.all (M.hasE n) = true then .tuple #[.string (strOfNums (M.encB n (M.ptsE n xs))), .int .i64 0] else .tuple #[.string ⟨#[]⟩, .int .i64 5]
theorem resW_yes {n mode : Int} {xs : List Int} (h : mode = 1 ∨ xs.all (M.hasE n) = true) : resW n mode xs = .tuple #[.string (strOfNums (M.encB n (M.ptsE n xs))), .int .i64 0] := by unfold resW; rw [if_pos h]
theorem resW_no {n mode : Int} {xs : List Int} (hm : mode = 0) (h : xs.all (M.hasE n) = false) : resW n mode xs = .tuple #[.string ⟨#[]⟩, .int .i64 5] := by
  unfold resW; rw [if_neg (by rw [hm, h]; simp)]
/-- What a round of write's loop knows. -/
def InX (n mode : Int) (xs : List Int) (w1 wr : World) (k : Nat) : Prop := (∃ v, Acc w1.heap.size (M.ptsE n (xs.take k)) v wr) ∧ Below w1.heap.size w1 wr ∧ (mode = 0 → (xs.take k).all (M.hasE n) = true)
theorem InX.start (n mode : Int) (xs : List Int) (w1 : World) : InX n mode xs w1 (w1.alloc (.cells #[.slice none 0 0] 31)) 0 :=
  ⟨⟨.slice none 0 0, heap_alloc_new _ _, World.ownsRow_nil _ _ _ _, by simp⟩, balloc _ _, fun _ => by simp⟩
theorem wf_sclr {p : Int} (h : M.sclr p = true) : (Lit.int .i64 p).wf = true := by
  have := M.sclr_bd h
  have e1 : IntKind.i64.min = -9223372036854775808 := by decide
  have e2 : IntKind.i64.max = 9223372036854775807 := by decide
  simp [Lit.wf, e1, e2]
  omega
theorem sclr_all {xs : List Int} (h : xs.all M.sclr = true) : ∀ n ∈ xs, M.sclr n = true := List.all_eq_true.1 h
theorem pts_few {n : Int} {xs : List Int} (h : xs.all M.sclr = true) (hl : xs.length ≤ 3000) : (M.ptsE n xs).length ≤ 30000 := by have := M.ptsE_len n xs h; omega
theorem all_take {xs : List Int} {f : Int → Bool} (h : xs.all f = true) (k : Nat) : (xs.take k).all f = true := by
  rw [List.all_eq_true] at *
  intro x hx
  exact h x (List.mem_of_mem_take hx)
theorem all_upto {xs : List Int} {f : Int → Bool} {k : Nat} (h : (xs.take k).all f = true) (hk : k < xs.length) {p : Int} (hp : xs.getD k 0 = p) (hf : f p = true) : (xs.take (k + 1)).all f = true := by
  rw [take_getD hk hp, List.all_append, h]; simp [hf]

set_option maxHeartbeats 1600000 in
set_option maxRecDepth 100000 in
theorem writeS_any (user : Bool) (n : Int) (hn : n = if user then 5 else 4) (mode : Int) (hmode : mode = 0 ∨ mode = 1) (v : Value) (xs : List Int) (w : World) (hT : Tb w) (hI : Ints w v xs) (hlen : xs.length ≤ 3000) (hs : xs.all M.sclr = true) :
    Calls Tryz.prog 98 #[.int .i64 n, .int .i64 mode, v] w fun e w' => e = .returned (resW n mode xs) ∧ Below w.heap.size w w' := by
  obtain ⟨ao, cap, rfl, -, -, hc⟩ := hI
  have HC := hide hc
  have HS := hide hs
  have HT := hide hT
  have HM := hide hmode
  have HK := hide (fun w => knownS_any user n hn w)
  have HH0 : Hid (∀ p, M.hasE n p = M.hasB user p) := hide (fun p => by rw [hn]; exact M.hasS user p)
  have HB0 : Hid (∀ l, M.encB n l = M.encS user l) := hide (fun l => by rw [hn]; exact M.encB_S user l)
  have HN0 := hide hn
  clear hn
  clear hc hs hT hmode
  go_enter Tryz.func98, Tryz.ntmps98
  go_wp2_with fail
  refine (unhide HK _).mono ?_
  rintro e w1 ⟨B, rfl, hP, hb1⟩
  have HB1 := hide hb1
  have HP1 := hide hP
  clear hb1 hP
  go_wp2_with fail
  go_loopw [18] (fun i wr => ∃ k : Nat, k ≤ xs.length ∧ i = .int .i64 k ∧ InX n mode xs w1 wr k) (fun i _ => xs.length - (intOf i).toNat)
  case atStart => exact ⟨0, by omega, rfl, InX.start _ _ _ _⟩
  case round =>
    obtain ⟨k, hk, rfl, ⟨vv, hA⟩, hB, hM⟩ := hrel
    have hz := hB.size
    have HBW := hide (bstep (unhide HB1) hB)
    have HA := hide hA
    have HB := hide hB
    have HMo := hide hM
    have HPK : Hid ((M.ptsE n (xs.take k)).length ≤ 30000) := hide (pts_few (all_take (unhide HS) k) (by rw [List.length_take]; omega))
    clear hA hB hM
    by_cases hlt : k < xs.length
    · obtain ⟨b, off, rfl, hc⟩ : ∃ b off, ao = some ⟨b, off, none⟩ ∧ ∀ i, i < xs.length → w.cell? ⟨b, off + i, none⟩ = some (.int .i64 (xs.getD i 0)) := by
        rcases unhide HC with h | h
        · subst h; simp at hlt
        · exact h
      have hcell : wr.cell? ⟨b, off + k, none⟩ = some (.int .i64 (xs.getD k 0)) := ((unhide HBW).cell (p := ⟨b, off + k, none⟩) (World.block_lt_of_cell? w _ (hc k hlt))).trans (hc k hlt)
      have hbr : b < wr.heap.size := World.block_lt_of_cell? wr _ hcell
      have HSp : Hid (M.sclr (xs.getD k 0) = true) := hide (sclr_all (unhide HS) _ (by simp [hlt]))
      obtain ⟨p, HP⟩ : ∃ p, Hid (xs.getD k 0 = p) := ⟨_, hide rfl⟩
      rw [unhide HP] at hcell HSp
      clear hc
      have HH := hide (by have := hasS_any user B p wr ((unhide HP1).below (unhide HB)); rw [← unhide HH0] at this; exact this)
      cases hq : M.hasE n p
      · rw [hq] at HH
        rcases unhide HM with hm0 | hm1
        · subst hm0
          have HW : Hid (resW n 0 xs = .tuple #[.string ⟨#[]⟩, .int .i64 5]) := hide (resW_no rfl (all_no hlt (unhide HP) hq))
          clear hq
          go_wp2_with fail
          refine (unhide HH).mono ?_
          rintro e w2 ⟨rfl, hw⟩
          have HB2 : Hid (Below wr.heap.size wr w2) := hide (by rw [hw]; exact Below.refl _ _)
          clear hw HH
          go_wp2_with fail
          go_ret2
          refine ⟨?_, bstep (unhide HBW) (unhide HB2)⟩
          rw [unhide HW]; rfl
        · subst hm1
          have HE : Hid (M.ptsE n (xs.take (k + 1)) = M.ptsE n (xs.take k) ++ M.tld p) := hide (by rw [take_getD hlt (unhide HP), M.ptsE_snoc, M.ptE_no hq])
          clear hq
          go_wp2_with fail
          refine (unhide HH).mono ?_
          rintro e w2 ⟨rfl, hw⟩
          have HB2 : Hid (Below wr.heap.size wr w2) := hide (by rw [hw]; exact Below.refl _ _)
          clear hw HH
          go_wp2_with fail
          refine (putNumber_any w1.heap.size p vv _ _ ((unhide HT).below (bstep (unhide HBW) (unhide HB2))) (unhide HSp) ((unhide HA).below (unhide HB2)) (unhide HPK)).mono ?_
          rintro e w3 ⟨rfl, v3, hA3, hB3⟩
          have HI : Hid (InX n 1 xs w1 w3 (k + 1)) := hide ⟨⟨v3, by rw [unhide HE]; exact hA3⟩, (bstep (unhide HB) (unhide HB2)).trans hB3, fun h => by cases h⟩
          clear hA3 hB3
          go_wp2_with fail
          go_roundw
          case rel => exact ⟨k + 1, by omega, by go_num, unhide HI⟩
          case measure => simp [intOf]; omega
      · rw [hq] at HH
        have HE : Hid (M.ptsE n (xs.take (k + 1)) = M.ptsE n (xs.take k) ++ [p]) := hide (by rw [take_getD hlt (unhide HP), M.ptsE_snoc, M.ptE_yes hq])
        have HM1 : Hid (mode = 0 → (xs.take (k + 1)).all (M.hasE n) = true) := hide (fun h => all_upto (unhide HMo h) hlt (unhide HP) hq)
        clear hq
        go_wp2_with fail
        refine (unhide HH).mono ?_
        rintro e w2 ⟨rfl, hw⟩
        have HB2 : Hid (Below wr.heap.size wr w2) := hide (by rw [hw]; exact Below.refl _ _)
        clear hw HH
        go_wp2_with fail
        refine (push_any w1.heap.size p vv _ _ ((unhide HA).below (unhide HB2)) (by have := unhide HPK; omega)).mono ?_
        rintro e w3 ⟨rfl, v3, hA3, hB3, -⟩
        have HI : Hid (InX n mode xs w1 w3 (k + 1)) := hide ⟨⟨v3, by rw [unhide HE]; exact hA3⟩, (bstep (unhide HB) (unhide HB2)).trans hB3, unhide HM1⟩
        clear hA3 hB3
        go_wp2_with fail
        go_roundw
        case rel => exact ⟨k + 1, by omega, by go_num, unhide HI⟩
        case measure => simp [intOf]; omega
    · have et : xs.take k = xs := List.take_of_length_le (by omega)
      rw [et] at HA HMo
      have HR : Hid (resW n mode xs = .tuple #[.string (strOfNums (M.encB n (M.ptsE n xs))), .int .i64 0]) := hide (resW_yes (by
        rcases unhide HM with h | h
        · exact .inr (unhide HMo h)
        · exact .inl h))
      have HSP := hide (sclr_all (M.ptsE_sclr n xs (unhide HS)))
      have hcv := cell_of_one (unhide HA).1
      have hlw : w1.heap.size < wr.heap.size := by have := (unhide HA).2.2; omega
      have HO := hide (unhide HA).2.1
      have HAll : Hid ((M.ptsE n xs).all (M.hasB user) = true) := hide (by have := M.ptsE_has n xs; rwa [show M.hasE n = M.hasB user from funext (unhide HH0)] at this)
      have HBO := hide (bytesOfS_any user n (unhide HN0) _ vv _ wr (unhide HO) (pts_few (unhide HS) hlen) (fun m hm => wf_sclr (unhide HSP m hm)) (unhide HAll))
      rw [← unhide HB0] at HBO
      obtain ⟨av, capv, hsh⟩ := owns_shape (unhide HO)
      subst hsh
      clear et
      go_wp2_with fail
      refine (unhide HBO).mono ?_
      rintro e w5 ⟨rfl, hb5⟩
      have HB5 := hide (bstep (unhide HBW) hb5)
      clear hb5
      go_wp2_with fail
      go_ret2
      refine ⟨?_, unhide HB5⟩
      rw [unhide HR]; rfl

set_option maxHeartbeats 1600000 in
set_option maxRecDepth 100000 in
theorem writeK_any  (mode : Int) (hmode : mode = 0 ∨ mode = 1) (v : Value) (xs : List Int) (w : World) (hT : Tb w) (hI : Ints w v xs) (hlen : xs.length ≤ 3000) (hs : xs.all M.sclr = true) :
    Calls Tryz.prog 98 #[.int .i64 6, .int .i64 mode, v] w fun e w' => e = .returned (resW 6 mode xs) ∧ Below w.heap.size w w' := by
  obtain ⟨ao, cap, rfl, -, -, hc⟩ := hI
  have HC := hide hc
  have HS := hide hs
  have HT := hide hT
  have HM := hide hmode
  have HK := hide (fun w => knownK_any w)
  clear hc hs hT hmode
  go_enter Tryz.func98, Tryz.ntmps98
  go_wp2_with fail
  refine (unhide HK _).mono ?_
  rintro e w1 ⟨rfl, hw⟩
  have HB1 : Hid (Below w.heap.size w w1) := hide (by rw [hw]; exact Below.refl _ _)
  clear hw
  go_wp2_with fail
  go_loopw [18] (fun i wr => ∃ k : Nat, k ≤ xs.length ∧ i = .int .i64 k ∧ InX 6 mode xs w1 wr k) (fun i _ => xs.length - (intOf i).toNat)
  case atStart => exact ⟨0, by omega, rfl, InX.start _ _ _ _⟩
  case round =>
    obtain ⟨k, hk, rfl, ⟨vv, hA⟩, hB, hM⟩ := hrel
    have hz := hB.size
    have HBW := hide (bstep (unhide HB1) hB)
    have HA := hide hA
    have HB := hide hB
    have HMo := hide hM
    have HPK : Hid ((M.ptsE 6 (xs.take k)).length ≤ 30000) := hide (pts_few (all_take (unhide HS) k) (by rw [List.length_take]; omega))
    clear hA hB hM
    by_cases hlt : k < xs.length
    · obtain ⟨b, off, rfl, hc⟩ : ∃ b off, ao = some ⟨b, off, none⟩ ∧ ∀ i, i < xs.length → w.cell? ⟨b, off + i, none⟩ = some (.int .i64 (xs.getD i 0)) := by
        rcases unhide HC with h | h
        · subst h; simp at hlt
        · exact h
      have hcell : wr.cell? ⟨b, off + k, none⟩ = some (.int .i64 (xs.getD k 0)) := ((unhide HBW).cell (p := ⟨b, off + k, none⟩) (World.block_lt_of_cell? w _ (hc k hlt))).trans (hc k hlt)
      have hbr : b < wr.heap.size := World.block_lt_of_cell? wr _ hcell
      have HSp : Hid (M.sclr (xs.getD k 0) = true) := hide (sclr_all (unhide HS) _ (by simp [hlt]))
      obtain ⟨p, HP⟩ : ∃ p, Hid (xs.getD k 0 = p) := ⟨_, hide rfl⟩
      rw [unhide HP] at hcell HSp
      clear hc
      have HH := hide (by have := hasK_any p wr (Gi_of (unhide HSp)); rw [← M.hasE_six] at this; exact this)
      cases hq : M.hasE 6 p
      · rw [hq] at HH
        rcases unhide HM with hm0 | hm1
        · subst hm0
          have HW : Hid (resW 6 0 xs = .tuple #[.string ⟨#[]⟩, .int .i64 5]) := hide (resW_no rfl (all_no hlt (unhide HP) hq))
          clear hq
          go_wp2_with fail
          refine (unhide HH).mono ?_
          rintro e w2 ⟨rfl, hb2⟩
          have HB2 := hide hb2
          clear hb2 HH
          go_wp2_with fail
          go_ret2
          refine ⟨?_, bstep (unhide HBW) (unhide HB2)⟩
          rw [unhide HW]; rfl
        · subst hm1
          have HE : Hid (M.ptsE 6 (xs.take (k + 1)) = M.ptsE 6 (xs.take k) ++ M.tld p) := hide (by rw [take_getD hlt (unhide HP), M.ptsE_snoc, M.ptE_no hq])
          clear hq
          go_wp2_with fail
          refine (unhide HH).mono ?_
          rintro e w2 ⟨rfl, hb2⟩
          have HB2 := hide hb2
          clear hb2 HH
          go_wp2_with fail
          refine (putNumber_any w1.heap.size p vv _ _ ((unhide HT).below (bstep (unhide HBW) (unhide HB2))) (unhide HSp) ((unhide HA).below (unhide HB2)) (unhide HPK)).mono ?_
          rintro e w3 ⟨rfl, v3, hA3, hB3⟩
          have HI : Hid (InX 6 1 xs w1 w3 (k + 1)) := hide ⟨⟨v3, by rw [unhide HE]; exact hA3⟩, (bstep (unhide HB) (unhide HB2)).trans hB3, fun h => by cases h⟩
          clear hA3 hB3
          go_wp2_with fail
          go_roundw
          case rel => exact ⟨k + 1, by omega, by go_num, unhide HI⟩
          case measure => simp [intOf]; omega
      · rw [hq] at HH
        have HE : Hid (M.ptsE 6 (xs.take (k + 1)) = M.ptsE 6 (xs.take k) ++ [p]) := hide (by rw [take_getD hlt (unhide HP), M.ptsE_snoc, M.ptE_yes hq])
        have HM1 : Hid (mode = 0 → (xs.take (k + 1)).all (M.hasE 6) = true) := hide (fun h => all_upto (unhide HMo h) hlt (unhide HP) hq)
        clear hq
        go_wp2_with fail
        refine (unhide HH).mono ?_
        rintro e w2 ⟨rfl, hb2⟩
        have HB2 := hide hb2
        clear hb2 HH
        go_wp2_with fail
        refine (push_any w1.heap.size p vv _ _ ((unhide HA).below (unhide HB2)) (by have := unhide HPK; omega)).mono ?_
        rintro e w3 ⟨rfl, v3, hA3, hB3, -⟩
        have HI : Hid (InX 6 mode xs w1 w3 (k + 1)) := hide ⟨⟨v3, by rw [unhide HE]; exact hA3⟩, (bstep (unhide HB) (unhide HB2)).trans hB3, unhide HM1⟩
        clear hA3 hB3
        go_wp2_with fail
        go_roundw
        case rel => exact ⟨k + 1, by omega, by go_num, unhide HI⟩
        case measure => simp [intOf]; omega
    · have et : xs.take k = xs := List.take_of_length_le (by omega)
      rw [et] at HA HMo
      have HR : Hid (resW 6 mode xs = .tuple #[.string (strOfNums (M.encB 6 (M.ptsE 6 xs))), .int .i64 0]) := hide (resW_yes (by
        rcases unhide HM with h | h
        · exact .inr (unhide HMo h)
        · exact .inl h))
      have HSP := hide (sclr_all (M.ptsE_sclr 6 xs (unhide HS)))
      have hcv := cell_of_one (unhide HA).1
      have hlw : w1.heap.size < wr.heap.size := by have := (unhide HA).2.2; omega
      have HO := hide (unhide HA).2.1
      have HAll : Hid ((M.ptsE 6 xs).all M.anyK = true) := hide (M.ptsE_has 6 xs)
      have HBO := hide (bytesOfK_any vv _ wr (Ints.of_owns (unhide HO)) (pts_few (unhide HS) hlen) (fun m hm => Gi_of (unhide HSP m hm)) (unhide HAll))
      rw [← M.encB_6] at HBO
      obtain ⟨av, capv, hsh⟩ := owns_shape (unhide HO)
      subst hsh
      clear et
      go_wp2_with fail
      refine (unhide HBO).mono ?_
      rintro e w5 ⟨rfl, hb5⟩
      have HB5 := hide (bstep (unhide HBW) hb5)
      clear hb5
      go_wp2_with fail
      go_ret2
      refine ⟨?_, unhide HB5⟩
      rw [unhide HR]; rfl
end Go.Proofs.YtaiinjfnkmidbaaGreatDoor

namespace Go.Proofs.YtaiinjfnkmidbaaGreatDoor
open Go.RowKit
set_option linter.unusedVariables false

set_option maxHeartbeats 400000 in
set_option maxRecDepth 100000 in
theorem scalar_any (n : Int) (w : World) : Calls Tryz.prog 136 #[.int .i64 n] w fun e w' => e = .returned (.bool (M.sclr n)) ∧ w' = w := by
  rcases (show n < 0 ∨ 1114111 < n ∨ (0 ≤ n ∧ n < 55296) ∨ (57343 < n ∧ n ≤ 1114111) ∨ (55296 ≤ n ∧ n ≤ 57343) from by omega) with h | h | ⟨h, h'⟩ | ⟨h, h'⟩ | ⟨h, h'⟩
  all_goals
    have HS : ∃ b, Hid (M.sclr n = b) := ⟨_, rfl⟩
    obtain ⟨b, HS⟩ := HS
  all_goals (rw [unhide HS])
  · have hb : b = false := by rw [← unhide HS]; simp [M.sclr]; omega
    subst hb
    go_enter Tryz.func136, Tryz.ntmps136
    go_wp2
    go_ret
    exact ⟨rfl, rfl⟩
  · have hb : b = false := by rw [← unhide HS]; simp [M.sclr]; omega
    subst hb
    have h0 : 0 ≤ n := by omega
    go_enter Tryz.func136, Tryz.ntmps136
    go_wp2
    go_ret
    exact ⟨rfl, rfl⟩
  · have hb : b = true := by rw [← unhide HS]; simp [M.sclr]; omega
    subst hb
    go_enter Tryz.func136, Tryz.ntmps136
    go_wp2
    go_ret
    exact ⟨rfl, rfl⟩
  · have hb : b = true := by rw [← unhide HS]; simp [M.sclr]; omega
    subst hb
    have h0 : 0 ≤ n := by omega
    go_enter Tryz.func136, Tryz.ntmps136
    go_wp2
    go_ret
    exact ⟨rfl, rfl⟩
  · have hb : b = false := by rw [← unhide HS]; simp [M.sclr]; omega
    subst hb
    have h0 : 0 ≤ n := by omega
    go_enter Tryz.func136, Tryz.ntmps136
    go_wp2
    go_ret
    exact ⟨ret_bool (by simp; omega), rfl⟩
set_option maxHeartbeats 400000 in
set_option maxRecDepth 100000 in
theorem further_any (n : Int) (w : World) (h0 : 0 ≤ n) (h1 : n < 4294967296) : Calls Tryz.prog 192 #[.int .i64 n] w fun e w' => e = .returned (.int .u8 (128 + n % 64)) ∧ w' = w := by
  have HA := and63 n h0 (by omega)
  have HO := or_at 6 128 (n % 64) (by omega) (by omega) (by omega) (by omega) (by omega) (by omega)
  go_enter Tryz.func192, Tryz.ntmps192
  go_wp2
  go_ret
  exact ⟨ret_int (by omega), rfl⟩
set_option maxHeartbeats 400000 in
set_option maxRecDepth 100000 in
theorem put_1 (base : Nat) (n : Int) (v : Value) (xs : List Int) (w : World) (hbase : base ≤ w.heap.size) (hown : w.ownsRow base 5 1 v xs.length (xs.map (Value.int .u8))) (hl : xs.length ≤ 12000)
    (h0 : 0 ≤ n) (h1 : n < 128) :
    Calls Tryz.prog 137 #[v, .int .i64 n] w fun e w' => ∃ v', e = .returned v' ∧ w'.ownsRow base 5 1 v' (xs ++ M.enc1 n).length ((xs ++ M.enc1 n).map (Value.int .u8)) ∧ Below base w w' := by
  obtain ⟨i0, hi, hz0, hz1, hz2⟩ := info_parts info5
  have HE : Hid (M.enc1 n = [n]) := by show M.enc1 n = _; unfold M.enc1; rw [if_pos h1]
  go_enter Tryz.func137, Tryz.ntmps137
  go_wp2_with (at_builtin; refine wpList_append_own _ rfl (.tmp 8) (.tmp 11) 151 rfl base 5 i0 (.int .u8 0) 1 1 Tryz.underlying151 hi hz0 hz1 hz2 rfl (by decide) _ _ _ rfl (hown.alloc _) ⟨w.heap.size, 0, none⟩ 1 1 [.int .u8 n] rfl rfl ?c1 ?c2 ?c3 ?c4 ?c5 ?_)
  case c1 =>
    intro j u hj
    match j, hj with
    | 0, hj => simp at hj; subst hj; simp [Addr.add]
  case c2 => intro u hu; simp at hu; subst hu; rfl
  case c3 => unfold maxLen; omega
  case c4 => omega
  case c5 => simp; omega
  intro v' w1 hown' hgrow _
  obtain ⟨ao', cap', rfl⟩ := owns_shape hown'
  have R2 := hide hown'
  have R3 := hide (((Below.refl base w).alloc hbase _).grown hgrow (by simp; omega) (fun k hk => by have := hown.lt k hk; omega))
  clear hown hown' hgrow
  go_wp2_with fail
  go_ret
  refine ⟨_, rfl, ?_, unhide R3⟩
  rw [unhide HE]
  simpa using unhide R2
set_option maxHeartbeats 400000 in
set_option maxRecDepth 100000 in
theorem put_2 (base : Nat) (n : Int) (v : Value) (xs : List Int) (w : World) (hbase : base ≤ w.heap.size) (hown : w.ownsRow base 5 1 v xs.length (xs.map (Value.int .u8))) (hl : xs.length ≤ 12000)
    (h0 : 128 ≤ n) (h1 : n < 2048) :
    Calls Tryz.prog 137 #[v, .int .i64 n] w fun e w' => ∃ v', e = .returned v' ∧ w'.ownsRow base 5 1 v' (xs ++ M.enc1 n).length ((xs ++ M.enc1 n).map (Value.int .u8)) ∧ Below base w w' := by
  obtain ⟨i0, hi, hz0, hz1, hz2⟩ := info_parts info5
  have HE : Hid (M.enc1 n = [192 + n / 64, 128 + n % 64]) := by show M.enc1 n = _; unfold M.enc1; rw [if_neg (by omega), if_pos (by omega)]
  have HO := or_at 5 192 (n / 64) (by omega) (by omega) (by omega) (by omega) (by omega) (by omega)
  go_enter Tryz.func137, Tryz.ntmps137
  go_wp2_with (first | (go_at_call 192; refine (further_any _ _ (by omega) (by omega)).mono ?_; rintro e w1 ⟨rfl, hw⟩; replace hw := hw.symm; subst hw) | (at_builtin; refine wpList_append_own _ rfl (.tmp 16) (.tmp 23) 151 rfl base 5 i0 (.int .u8 0) 1 1 Tryz.underlying151 hi hz0 hz1 hz2 rfl (by decide) _ _ _ rfl (hown.alloc _) ⟨w.heap.size, 0, none⟩ 2 2 [.int .u8 (192 + n / 64), .int .u8 (128 + n % 64)] rfl rfl ?c1 ?c2 ?c3 ?c4 ?c5 ?_))
  case c1 =>
    intro j u hj
    match j, hj with
    | 0, hj => simp at hj; subst hj; simp [Addr.add]
    | 1, hj => simp at hj; subst hj; simp [Addr.add]
  case c2 => intro u hu; simp at hu; rcases hu with rfl | rfl <;> rfl
  case c3 => unfold maxLen; omega
  case c4 => omega
  case c5 => simp; omega
  intro v' w1 hown' hgrow _
  obtain ⟨ao', cap', rfl⟩ := owns_shape hown'
  have R2 := hide hown'
  have R3 := hide (((Below.refl base w).alloc hbase _).grown hgrow (by simp; omega) (fun k hk => by have := hown.lt k hk; omega))
  clear hown hown' hgrow
  go_wp2_with fail
  go_ret
  refine ⟨_, rfl, ?_, unhide R3⟩
  rw [unhide HE]
  simpa using unhide R2
set_option maxHeartbeats 400000 in
set_option maxRecDepth 100000 in
theorem put_3 (base : Nat) (n : Int) (v : Value) (xs : List Int) (w : World) (hbase : base ≤ w.heap.size) (hown : w.ownsRow base 5 1 v xs.length (xs.map (Value.int .u8))) (hl : xs.length ≤ 12000)
    (h0 : 2048 ≤ n) (h1 : n < 65536) :
    Calls Tryz.prog 137 #[v, .int .i64 n] w fun e w' => ∃ v', e = .returned v' ∧ w'.ownsRow base 5 1 v' (xs ++ M.enc1 n).length ((xs ++ M.enc1 n).map (Value.int .u8)) ∧ Below base w w' := by
  obtain ⟨i0, hi, hz0, hz1, hz2⟩ := info_parts info5
  have HE : Hid (M.enc1 n = [224 + n / 4096, 128 + n / 64 % 64, 128 + n % 64]) := by show M.enc1 n = _; unfold M.enc1; rw [if_neg (by omega), if_neg (by omega), if_pos (by omega)]
  have HO := or_at 4 224 (n / 4096) (by omega) (by omega) (by omega) (by omega) (by omega) (by omega)
  go_enter Tryz.func137, Tryz.ntmps137
  go_wp2_with (first | (go_at_call 192; refine (further_any _ _ (by omega) (by omega)).mono ?_; rintro e w1 ⟨rfl, hw⟩; replace hw := hw.symm; subst hw) | (at_builtin; refine wpList_append_own _ rfl (.tmp 28) (.tmp 38) 151 rfl base 5 i0 (.int .u8 0) 1 1 Tryz.underlying151 hi hz0 hz1 hz2 rfl (by decide) _ _ _ rfl (hown.alloc _) ⟨w.heap.size, 0, none⟩ 3 3 [.int .u8 (224 + n / 4096), .int .u8 (128 + n / 64 % 64), .int .u8 (128 + n % 64)] rfl rfl ?c1 ?c2 ?c3 ?c4 ?c5 ?_))
  case c1 =>
    intro j u hj
    match j, hj with
    | 0, hj => simp at hj; subst hj; simp [Addr.add]
    | 1, hj => simp at hj; subst hj; simp [Addr.add]
    | 2, hj => simp at hj; subst hj; simp [Addr.add]
  case c2 => intro u hu; simp at hu; rcases hu with rfl | rfl | rfl <;> rfl
  case c3 => unfold maxLen; omega
  case c4 => omega
  case c5 => simp; omega
  intro v' w1 hown' hgrow _
  obtain ⟨ao', cap', rfl⟩ := owns_shape hown'
  have R2 := hide hown'
  have R3 := hide (((Below.refl base w).alloc hbase _).grown hgrow (by simp; omega) (fun k hk => by have := hown.lt k hk; omega))
  clear hown hown' hgrow
  go_wp2_with fail
  go_ret
  refine ⟨_, rfl, ?_, unhide R3⟩
  rw [unhide HE]
  simpa using unhide R2
set_option maxHeartbeats 400000 in
set_option maxRecDepth 100000 in
theorem put_4 (base : Nat) (n : Int) (v : Value) (xs : List Int) (w : World) (hbase : base ≤ w.heap.size) (hown : w.ownsRow base 5 1 v xs.length (xs.map (Value.int .u8))) (hl : xs.length ≤ 12000)
    (h0 : 65536 ≤ n) (h1 : n ≤ 1114111) :
    Calls Tryz.prog 137 #[v, .int .i64 n] w fun e w' => ∃ v', e = .returned v' ∧ w'.ownsRow base 5 1 v' (xs ++ M.enc1 n).length ((xs ++ M.enc1 n).map (Value.int .u8)) ∧ Below base w w' := by
  obtain ⟨i0, hi, hz0, hz1, hz2⟩ := info_parts info5
  have HE : Hid (M.enc1 n = [240 + n / 262144, 128 + n / 4096 % 64, 128 + n / 64 % 64, 128 + n % 64]) := by show M.enc1 n = _; unfold M.enc1; rw [if_neg (by omega), if_neg (by omega), if_neg (by omega)]
  have HO := or_at 3 240 (n / 262144) (by omega) (by omega) (by omega) (by omega) (by omega) (by omega)
  go_enter Tryz.func137, Tryz.ntmps137
  go_wp2_with (first | (go_at_call 192; refine (further_any _ _ (by omega) (by omega)).mono ?_; rintro e w1 ⟨rfl, hw⟩; replace hw := hw.symm; subst hw) | (at_builtin; refine wpList_append_own _ rfl (.tmp 40) (.tmp 53) 151 rfl base 5 i0 (.int .u8 0) 1 1 Tryz.underlying151 hi hz0 hz1 hz2 rfl (by decide) _ _ _ rfl (hown.alloc _) ⟨w.heap.size, 0, none⟩ 4 4 [.int .u8 (240 + n / 262144), .int .u8 (128 + n / 4096 % 64), .int .u8 (128 + n / 64 % 64), .int .u8 (128 + n % 64)] rfl rfl ?c1 ?c2 ?c3 ?c4 ?c5 ?_))
  case c1 =>
    intro j u hj
    match j, hj with
    | 0, hj => simp at hj; subst hj; simp [Addr.add]
    | 1, hj => simp at hj; subst hj; simp [Addr.add]
    | 2, hj => simp at hj; subst hj; simp [Addr.add]
    | 3, hj => simp at hj; subst hj; simp [Addr.add]
  case c2 => intro u hu; simp at hu; rcases hu with rfl | rfl | rfl | rfl <;> rfl
  case c3 => unfold maxLen; omega
  case c4 => omega
  case c5 => simp; omega
  intro v' w1 hown' hgrow _
  obtain ⟨ao', cap', rfl⟩ := owns_shape hown'
  have R2 := hide hown'
  have R3 := hide (((Below.refl base w).alloc hbase _).grown hgrow (by simp; omega) (fun k hk => by have := hown.lt k hk; omega))
  clear hown hown' hgrow
  go_wp2_with fail
  go_ret
  refine ⟨_, rfl, ?_, unhide R3⟩
  rw [unhide HE]
  simpa using unhide R2
theorem put_any (base : Nat) (n : Int) (v : Value) (xs : List Int) (w : World) (hbase : base ≤ w.heap.size) (hown : w.ownsRow base 5 1 v xs.length (xs.map (Value.int .u8))) (hl : xs.length ≤ 12000)
    (h : M.sclr n = true) :
    Calls Tryz.prog 137 #[v, .int .i64 n] w fun e w' => ∃ v', e = .returned v' ∧ w'.ownsRow base 5 1 v' (xs ++ M.enc1 n).length ((xs ++ M.enc1 n).map (Value.int .u8)) ∧ Below base w w' := by
  have h' : 0 ≤ n ∧ n ≤ 1114111 := by simp [M.sclr] at h; omega
  rcases (show n < 128 ∨ (128 ≤ n ∧ n < 2048) ∨ (2048 ≤ n ∧ n < 65536) ∨ 65536 ≤ n from by omega) with g | ⟨g, g'⟩ | ⟨g, g'⟩ | g
  · exact put_1 base n v xs w hbase hown hl h'.1 g
  · exact put_2 base n v xs w hbase hown hl g g'
  · exact put_3 base n v xs w hbase hown hl g g'
  · exact put_4 base n v xs w hbase hown hl g h'.2
/-- What Encode answers of at most 3000 integers. -/
def encRes (xs : List Int) : Value := if xs.all M.sclr then .tuple #[.string (strOfNums (M.enc xs)), .int .i64 0] else .tuple #[.string ⟨#[]⟩, .int .i64 3]
theorem encRes_yes {xs : List Int} (h : xs.all M.sclr = true) : encRes xs = .tuple #[.string (strOfNums (M.enc xs)), .int .i64 0] := by unfold encRes; rw [if_pos h]
theorem encRes_no {xs : List Int} (h : xs.all M.sclr = false) : encRes xs = .tuple #[.string ⟨#[]⟩, .int .i64 3] := by unfold encRes; rw [if_neg (by simp [h])]
/-- The bytes of scalars, gathered. -/
def InE (xs : List Int) (w wr : World) (k : Nat) (v : Value) : Prop :=
  wr.ownsRow w.heap.size 5 1 v (M.enc (xs.take k)).length ((M.enc (xs.take k)).map (Value.int .u8)) ∧ Below w.heap.size w wr ∧ (xs.take k).all M.sclr = true
theorem InE.step {xs : List Int} {w wr w1 : World} {k : Nat} {v v1 : Value} (h : InE xs w wr k v) (hk : k < xs.length) (hs : M.sclr (xs.getD k 0) = true)
    (ho : w1.ownsRow w.heap.size 5 1 v1 (M.enc (xs.take k) ++ M.enc1 (xs.getD k 0)).length ((M.enc (xs.take k) ++ M.enc1 (xs.getD k 0)).map (Value.int .u8))) (hb : Below w.heap.size wr w1) : InE xs w w1 (k + 1) v1 := by
  have e : xs.take (k + 1) = xs.take k ++ [xs.getD k 0] := by
    rw [List.take_succ_eq_append_getElem hk]; simp [hk]
  refine ⟨?_, h.2.1.trans hb, ?_⟩
  · rw [e, M.enc_snoc]; exact ho
  · rw [e, List.all_append, h.2.2]; simpa using hs
set_option maxHeartbeats 400000 in
set_option maxRecDepth 100000 in
theorem encode_many (ao : Option Addr) (len cap : Nat) (w : World) (h : 3000 < len) (hm : len ≤ maxLen) :
    Calls Tryz.prog 79 #[.slice ao len cap] w fun e w' => e = .returned (.tuple #[.string ⟨#[]⟩, .int .i64 2]) ∧ w' = w := by
  unfold maxLen at hm
  go_enter Tryz.func79, Tryz.ntmps79
  go_wp2
  go_ret2
  exact ⟨rfl, rfl⟩
set_option maxHeartbeats 400000 in
set_option maxRecDepth 100000 in
theorem encode_none (ao : Option Addr) (cap : Nat) (w : World) :
    Calls Tryz.prog 79 #[.slice ao 0 cap] w fun e w' => e = .returned (.tuple #[.string (strOfNums []), .int .i64 0]) ∧ w' = w := by
  have hc := conv_owned (xs := []) (World.ownsRow_nil w 0 5 1)
  go_enter Tryz.func79, Tryz.ntmps79
  go_wp2
  refine wp_loop_rounds 1 ?_
  rw [rounds_succ]
  go_wp2
  go_ret2
  exact ⟨rfl, rfl⟩
set_option maxHeartbeats 400000 in
set_option maxRecDepth 100000 in
theorem encode_some (b off cap : Nat) (xs : List Int) (w : World) (h0 : xs ≠ []) (h : xs.length ≤ 3000) (hc : ∀ i, i < xs.length → w.cell? ⟨b, off + i, none⟩ = some (.int .i64 (xs.getD i 0))) :
    Calls Tryz.prog 79 #[.slice (some ⟨b, off, none⟩) xs.length cap] w fun e w' => Below w.heap.size w w' ∧
      e = .returned (encRes xs) := by
  have hlen : 0 < xs.length := List.length_pos_iff.2 h0
  have hbl : b < w.heap.size := World.block_lt_of_cell? w _ (hc 0 hlen)
  have HC := hide hc
  have HI : InE xs w w 0 (.slice none 0 0) := ⟨World.ownsRow_nil _ _ _ _, Below.refl _ _, by simp⟩
  clear hc h0
  go_enter Tryz.func79, Tryz.ntmps79
  go_wp2_with fail
  go_loopw [4, 12] (fun v i wr => ∃ k : Nat, k ≤ xs.length ∧ i = .int .i64 k ∧ InE xs w wr k v) (fun _ i _ => xs.length - (intOf i).toNat)
  case atStart => exact ⟨0, by omega, rfl, HI⟩
  case round =>
    obtain ⟨k, hk, rfl, hI⟩ := hrel
    clear HI
    by_cases hlt : k < xs.length
    · have hcell : wr.cell? ⟨b, off + k, none⟩ = some (.int .i64 (xs.getD k 0)) := (hI.2.1.cell (p := ⟨b, off + k, none⟩) hbl).trans (unhide HC k hlt)
      obtain ⟨p, HP⟩ : ∃ p, Hid (xs.getD k 0 = p) := ⟨_, rfl⟩
      rw [unhide HP] at hcell
      obtain ⟨q, HQ⟩ : ∃ q, Hid (M.sclr p = q) := ⟨_, rfl⟩
      go_wp2_with fail
      refine (scalar_any _ _).mono ?_
      rintro e w1 ⟨rfl, hw⟩
      replace hw := hw.symm
      subst hw
      rw [unhide HQ]
      cases q
      · go_wp2_with fail
        go_ret2
        refine ⟨hI.2.1, ?_⟩
        have : xs.all M.sclr = false := by
          rw [List.all_eq_false]
          refine ⟨xs.getD k 0, ?_, by rw [unhide HP, unhide HQ]; simp⟩
          simp [hlt]
        rw [encRes_no this]; rfl
      · have hz := hI.2.1.size
        have hel := M.enc_len (xs.take k)
        have htl := List.length_take_le k xs
        go_wp2_with fail
        refine (put_any w.heap.size p _ (M.enc (xs.take k)) _ hz hI.1 (by omega) (unhide HQ)).mono ?_
        rintro e w2 ⟨v2, rfl, ho2, hb2⟩
        have HI := InE.step hI hlt (by rw [unhide HP]; exact unhide HQ) (by rw [unhide HP]; exact ho2) hb2
        obtain ⟨ao2, cap2, rfl⟩ := owns_shape ho2
        clear hI ho2 hb2
        go_wp2_with fail
        go_roundw
        case rel => exact ⟨k + 1, by omega, by go_num, by rw [List.length_append] at HI; exact HI⟩
        case measure => simp [intOf]; omega
    · have ek : k = xs.length := by omega
      have hcv := conv_owned hI.1
      obtain ⟨o1, o2, o3⟩ := hI
      have hb := hide o2
      subst ek
      rw [List.take_length] at hcv o1 o3
      obtain ⟨ao2, cap2, hsh⟩ := owns_shape o1
      subst hsh
      have HA := hide o3
      clear o1 o2 o3
      go_wp2_with fail
      go_ret2
      refine ⟨unhide hb, ?_⟩
      rw [encRes_yes (unhide HA)]; rfl
theorem encode_any {v : Value} {xs : List Int} (w : World) (hx : Ints w v xs) (h : xs.length ≤ 3000) :
    Calls Tryz.prog 79 #[v] w fun e w' => Below w.heap.size w w' ∧ e = .returned (encRes xs) := by
  obtain ⟨ao, cap, rfl, hm, -, hx⟩ := hx
  by_cases h0 : xs = []
  · subst h0
    refine (encode_none ao cap w).mono ?_
    rintro e w' ⟨rfl, rfl⟩
    exact ⟨Below.refl _ _, rfl⟩
  · rcases hx with hx | ⟨b, off, rfl, hc⟩
    · exact absurd hx h0
    · exact encode_some b off cap xs w h0 h hc
end Go.Proofs.YtaiinjfnkmidbaaGreatDoor

namespace Go.Proofs.YtaiinjfnkmidbaaGreatDoor
open Go.RowKit
set_option linter.unusedVariables false

set_option maxHeartbeats 400000 in
set_option maxRecDepth 100000 in
theorem Output_no (n : Int) (w : World) (hn : ¬ (1 ≤ n ∧ n ≤ 7)) : Calls Tryz.prog 41 #[.int .i64 n] w fun e w' => e = .returned (.tuple #[.int .i64 0, .int .i64 6]) ∧ Below w.heap.size w w' := by
  have HN := hide (fun w => Name_no n w hn)
  clear hn
  go_enter Tryz.func41, Tryz.ntmps41
  go_wp2_with fail
  refine (unhide HN _).mono ?_
  rintro e w1 ⟨rfl, hb1⟩
  have HB1 := hide hb1
  clear hb1 HN
  go_wp2_with fail
  go_ret2
  exact ⟨rfl, unhide HB1⟩
set_option maxHeartbeats 800000 in
set_option maxRecDepth 100000 in
theorem Output_yes (n : Int) (w : World) (hn : 1 ≤ n ∧ n ≤ 7) : Calls Tryz.prog 41 #[.int .i64 n] w fun e w' => e = .returned (.tuple #[.int .i64 (M.outE n), .int .i64 0]) ∧ Below w.heap.size w w' := by
  have HN := hide (fun w => Name_yes n w hn)
  generalize nameI n = nam at HN
  rcases (show n = 1 ∨ n = 2 ∨ n = 3 ∨ n = 4 ∨ n = 5 ∨ n = 6 ∨ n = 7 from by omega) with rfl | rfl | rfl | rfl | rfl | rfl | rfl
  all_goals
    clear hn
    go_enter Tryz.func41, Tryz.ntmps41
    go_wp2_with fail
    refine (unhide HN _).mono ?_
    rintro e w1 ⟨rfl, hb1⟩
    have HB1 := hide hb1
    clear hb1 HN
    go_wp2_with fail
    go_ret2
    exact ⟨rfl, unhide HB1⟩

set_option maxHeartbeats 1600000 in
set_option maxRecDepth 100000 in
theorem Has_yes (n p : Int) (w : World) (hn : 1 ≤ n ∧ n ≤ 7) (hp : M.sclr p = true) : Calls Tryz.prog 40 #[.int .i64 n, .int .i64 p] w fun e w' => e = .returned (.tuple #[.bool (M.hasE n p), .int .i64 0]) ∧ Below w.heap.size w w' := by
  have HN := hide (fun w => Output_yes n w hn)
  have HE := hide (fun w : World => encode_any (w.alloc (.cells #[.int .i64 p] 3)) (one_int w p) (by simp))
  rw [encRes_yes (by simp [hp])] at HE
  generalize strOfNums (M.enc [p]) = es at HE
  have HP := hide hp
  rw [← M.hasE_out]
  rcases M.outE_bd hn with ho | ho | ho | ho
  · rw [ho] at HN ⊢
    clear hn ho hp
    have HK := hide (fun w => knownU_any w)
    go_enter Tryz.func40, Tryz.ntmps40
    go_wp2_with fail
    refine (unhide HN _).mono ?_
    rintro e w1 ⟨rfl, hb1⟩
    have HB1 := hide hb1
    clear hb1 HN
    go_wp2_with fail
    refine (unhide HE _).mono ?_
    rintro e w2 ⟨hb2, rfl⟩
    have HB2 := hide (bstep (bstep (unhide HB1) (balloc _ _)) hb2)
    clear hb2 HE
    go_wp2_with fail
    refine (unhide HK _).mono ?_
    rintro e w3 ⟨rfl, hw⟩
    replace hw := hw.symm
    subst hw
    go_wp2_with fail
    refine (hasU_any p _).mono ?_
    rintro e w3 ⟨rfl, hw⟩
    replace hw := hw.symm
    subst hw
    go_wp2_with fail
    go_ret2
    exact ⟨rfl, unhide HB2⟩
  · rw [ho] at HN ⊢
    clear hn ho hp
    have HK := hide (fun w => knownS_any false 4 rfl w)
    rw [M.hasE_four]
    go_enter Tryz.func40, Tryz.ntmps40
    go_wp2_with fail
    refine (unhide HN _).mono ?_
    rintro e w1 ⟨rfl, hb1⟩
    have HB1 := hide hb1
    clear hb1 HN
    go_wp2_with fail
    refine (unhide HE _).mono ?_
    rintro e w2 ⟨hb2, rfl⟩
    have HB2 := hide (bstep (bstep (unhide HB1) (balloc _ _)) hb2)
    clear hb2 HE
    go_wp2_with fail
    refine (unhide HK _).mono ?_
    rintro e w3 ⟨B, rfl, hP, hb3⟩
    have HB3 := hide (bstep (unhide HB2) hb3)
    have HPt := hide hP
    clear hb3 hP
    go_wp2_with fail
    refine (hasS_any false B p _ (unhide HPt)).mono ?_
    rintro e w4 ⟨rfl, hw⟩
    replace hw := hw.symm
    subst hw
    go_wp2_with fail
    go_ret2
    exact ⟨rfl, unhide HB3⟩
  · rw [ho] at HN ⊢
    clear hn ho hp
    have HK := hide (fun w => knownS_any true 5 rfl w)
    rw [M.hasE_five]
    go_enter Tryz.func40, Tryz.ntmps40
    go_wp2_with fail
    refine (unhide HN _).mono ?_
    rintro e w1 ⟨rfl, hb1⟩
    have HB1 := hide hb1
    clear hb1 HN
    go_wp2_with fail
    refine (unhide HE _).mono ?_
    rintro e w2 ⟨hb2, rfl⟩
    have HB2 := hide (bstep (bstep (unhide HB1) (balloc _ _)) hb2)
    clear hb2 HE
    go_wp2_with fail
    refine (unhide HK _).mono ?_
    rintro e w3 ⟨B, rfl, hP, hb3⟩
    have HB3 := hide (bstep (unhide HB2) hb3)
    have HPt := hide hP
    clear hb3 hP
    go_wp2_with fail
    refine (hasS_any true B p _ (unhide HPt)).mono ?_
    rintro e w4 ⟨rfl, hw⟩
    replace hw := hw.symm
    subst hw
    go_wp2_with fail
    go_ret2
    exact ⟨rfl, unhide HB3⟩
  · rw [ho] at HN ⊢
    clear hn ho hp
    have HK := hide (fun w => knownK_any w)
    rw [M.hasE_six]
    go_enter Tryz.func40, Tryz.ntmps40
    go_wp2_with fail
    refine (unhide HN _).mono ?_
    rintro e w1 ⟨rfl, hb1⟩
    have HB1 := hide hb1
    clear hb1 HN
    go_wp2_with fail
    refine (unhide HE _).mono ?_
    rintro e w2 ⟨hb2, rfl⟩
    have HB2 := hide (bstep (bstep (unhide HB1) (balloc _ _)) hb2)
    clear hb2 HE
    go_wp2_with fail
    refine (unhide HK _).mono ?_
    rintro e w3 ⟨rfl, hw⟩
    replace hw := hw.symm
    subst hw
    go_wp2_with fail
    refine (hasK_any p _ (Gi_of (unhide HP))).mono ?_
    rintro e w4 ⟨rfl, hb4⟩
    have HB4 := hide (bstep (unhide HB2) hb4)
    clear hb4
    go_wp2_with fail
    go_ret2
    exact ⟨rfl, unhide HB4⟩

set_option maxHeartbeats 400000 in
set_option maxRecDepth 100000 in
theorem Enc_kind (n mode : Int) (ao : Option Addr) (len cap : Nat) (w : World) (hn : ¬ (1 ≤ n ∧ n ≤ 7)) : Calls Tryz.prog 44 #[.int .i64 n, .int .i64 mode, .slice ao len cap] w fun e w' => e = .returned (.tuple #[.string ⟨#[]⟩, .int .i64 6]) ∧ Below w.heap.size w w' := by
  have HN := hide (fun w => Output_no n w hn)
  clear hn
  go_enter Tryz.func44, Tryz.ntmps44
  go_wp2_with fail
  refine (unhide HN _).mono ?_
  rintro e w1 ⟨rfl, hb1⟩
  have HB1 := hide hb1
  clear hb1 HN
  go_wp2_with fail
  go_ret2
  exact ⟨rfl, unhide HB1⟩
theorem resW_one {n mode : Int} {xs : List Int} (h : M.outE n = 1) : resW n mode xs = .tuple #[.string (strOfNums (M.enc xs)), .int .i64 0] := by
  rw [resW_yes (.inr (List.all_eq_true.2 fun x _ => M.hasE_one h x)), M.ptsE_one h, ← M.encB_out, h, M.encB_1]
set_option maxHeartbeats 1600000 in
set_option maxRecDepth 100000 in
theorem Enc_ok (n mode : Int) {v : Value} {xs : List Int} (w : World) (hT : Tb w) (hn : 1 ≤ n ∧ n ≤ 7) (hm : mode = 0 ∨ mode = 1) (hI : Ints w v xs) (hl : xs.length ≤ 3000) (hs : xs.all M.sclr = true) : Calls Tryz.prog 44 #[.int .i64 n, .int .i64 mode, v] w fun e w' => e = .returned (resW n mode xs) ∧ Below w.heap.size w w' := by
  have HN := hide (fun w => Output_yes n w hn)
  have HE := hide (fun (w' : World) (hb : Below w.heap.size w w') => encode_any w' (hI.below hb) hl)
  rw [encRes_yes hs] at HE
  have m01 : (mode == 0) = false → (mode == 1) = true := by rcases hm with rfl | rfl <;> simp
  have HM := hide hm
  by_cases ho : M.outE n = 1
  · rw [resW_one ho]
    rw [ho] at HN
    generalize strOfNums (M.enc xs) = es at *
    obtain ⟨ao, cap, rfl, -, -, -⟩ := hI
    clear hn hs ho m01
    rcases hm with rfl | rfl
    all_goals
      go_enter Tryz.func44, Tryz.ntmps44
      go_wp2_with fail
      refine (unhide HN _).mono ?_
      rintro e w1 ⟨rfl, hb1⟩
      have HB1 := hide hb1
      clear hb1 HN
      go_wp2_with fail
      refine (unhide HE _ (unhide HB1)).mono ?_
      rintro e w2 ⟨hb2, rfl⟩
      have HB2 := hide (bstep (unhide HB1) hb2)
      clear hb2 HE
      go_wp2_with fail
      go_ret2
      exact ⟨rfl, unhide HB2⟩
  · have HW : Hid (∀ w', Below w.heap.size w w' → Calls Tryz.prog 98 #[.int .i64 (M.outE n), .int .i64 mode, v] w' fun e w'' => e = .returned (resW n mode xs) ∧ Below w'.heap.size w' w'') := hide (fun w' hb => by
      have e : M.outE n = n := by unfold M.outE at ho ⊢; split at ho <;> simp_all
      rw [e] at ho ⊢
      rcases M.outE_bd hn with h | h | h | h
      · rw [e] at h; exact absurd h ho
      · rw [e] at h; exact writeS_any false n (by simpa using h) mode hm v xs w' (hT.below hb) (hI.below hb) hl hs
      · rw [e] at h; exact writeS_any true n (by simpa using h) mode hm v xs w' (hT.below hb) (hI.below hb) hl hs
      · rw [e] at h; subst h; exact writeK_any mode hm v xs w' (hT.below hb) (hI.below hb) hl hs)
    have ho' : (M.outE n == 1) = false := by simpa using ho
    have HV : Hid (resW n mode xs = .tuple #[.string (strOfNums (M.encB n (M.ptsE n xs))), .int .i64 0] ∨ resW n mode xs = .tuple #[.string ⟨#[]⟩, .int .i64 5]) := hide (by unfold resW; split <;> simp)
    generalize strOfNums (M.enc xs) = es at *
    generalize M.outE n = o at *
    obtain ⟨r, HR⟩ : ∃ r, Hid (resW n mode xs = r) := ⟨_, hide rfl⟩
    rw [unhide HR] at HW HV ⊢
    generalize strOfNums (M.encB n (M.ptsE n xs)) = bs at *
    obtain ⟨ao, cap, rfl, -, -, -⟩ := hI
    clear hn hs ho m01 HR hT
    rcases unhide HV with rfl | rfl <;> rcases hm with rfl | rfl
    all_goals
      clear HV
      go_enter Tryz.func44, Tryz.ntmps44
      go_wp2_with fail
      refine (unhide HN _).mono ?_
      rintro e w1 ⟨rfl, hb1⟩
      have HB1 := hide hb1
      clear hb1 HN
      go_wp2_with fail
      refine (unhide HE _ (unhide HB1)).mono ?_
      rintro e w2 ⟨hb2, rfl⟩
      have HB2 := hide (bstep (unhide HB1) hb2)
      clear hb2 HE
      go_wp2_with fail
      refine (unhide HW _ (unhide HB2)).mono ?_
      rintro e w3 ⟨rfl, hb3⟩
      have HB3 := hide (bstep (unhide HB2) hb3)
      clear hb3 HW
      go_wp2_with fail
      go_ret2
      exact ⟨rfl, unhide HB3⟩
end Go.Proofs.YtaiinjfnkmidbaaGreatDoor

namespace Go.Proofs.YtaiinjfnkmidbaaGreatDoor
open Go.RowKit
set_option linter.unusedVariables false

theorem append_intsL {w : World} {ops : Array Oper} {rest : List Oper} {o : Oper} {a : Act} {Q : Exit → Act → World → Prop} (hw : Region.wanted o (yielded ops a.tmps) = true) (s x : Operand)
    (ho : o.op = .call { callee := .builtin .append, args := #[s, x], argTypes := #[31, 31] }) (base : Nat) (v : Value) (xs : List Int) (hs : a.eval s = v)
    (hown : w.ownsRow base 3 1 v xs.length (xs.map (Value.int .i64))) (u : Value) (ys : List Int) (hx : a.eval x = u) (hI : Ints w u ys) (hlen : xs.length + ys.length ≤ 4000000) (hbase : base ≤ w.heap.size)
    (h : ∀ v' w', w'.ownsRow base 3 1 v' (xs ++ ys).length ((xs ++ ys).map (Value.int .i64)) → Below base w w' → wpList Tryz.prog ops Q rest (a.put o.dst v') w') : wpList Tryz.prog ops Q (o :: rest) a w := by
  obtain ⟨i0, hi, hz0, hz1, hz2⟩ := info_parts info3
  obtain ⟨ao, cap, rfl, hm, hn, hc⟩ := hI
  refine BigFrame.wpList_want hw fun K hK => ?_
  cases ao with
  | none =>
    have hy : ys = [] := by
      rcases hc with hc | ⟨b, off, e, _⟩
      · exact hc
      · cases e
    subst hy
    have hcap := hn rfl
    subst hcap
    have hrun := run_append_owned_none (P := Tryz.prog) (w := w) base 31 o.type 3 i0 1 Tryz.underlying31 hi v _ _ hown
    have hK' := hK _ _ (h v w (by simpa using hown) (Below.refl _ _))
    unfold Oper.wp
    simp only [List.length_nil] at hx
    simp [execOp, ho, resolve, invoke, builtin, hs, hx, hrun, Result.andThen]
    exact hK'
  | some ad =>
    refine wp_append_own w s x 31 ho base 3 i0 (.int .i64 0) 1 8 Tryz.underlying31 hi hz0 hz1 hz2 rfl (by decide) v _ _ hs hown ad ys.length cap (ys.map (Value.int .i64)) hx (by simp) ?_ ?_ (by unfold maxLen; omega) (by omega) hbase ?_
    · intro j u hj
      have hjl : j < ys.length := by
        rcases Nat.lt_or_ge j ys.length with h | h
        · exact h
        · simp [List.getElem?_eq_none (show (ys.map (Value.int .i64)).length ≤ j by simpa using h)] at hj
      rcases hc with hc | ⟨b, off, e, hc⟩
      · subst hc; simp at hjl
      · cases e
        have := hc j hjl
        simp [hjl] at hj
        subst hj
        by_cases hj0 : j = 0
        · subst hj0; simpa [Addr.add, hjl] using this
        · simpa [Addr.add, hj0, hjl] using this
    · intro u hu
      simp at hu
      obtain ⟨y, _, rfl⟩ := hu
      rfl
    · intro v' w' h1 h2 _
      refine hK _ _ (h v' w' (by simpa using h1) ((Below.refl _ _).grown h2 hbase (fun k hk => (hown.lt k hk).1)))

end Go.Proofs.YtaiinjfnkmidbaaGreatDoor

namespace Go.Proofs.YtaiinjfnkmidbaaGreatDoor
open Go.RowKit
set_option linter.unusedVariables false

theorem kpc_byt {now n : Int} (h : M.anyK n = true) : ∀ x ∈ M.kpc now n, 0 ≤ x ∧ x ≤ 255 := by
  obtain ⟨c, hc, e, _⟩ := M.kby_spec (M.want_has (now := now) h)
  intro x hx
  unfold M.kpc at hx
  rw [List.mem_append] at hx
  rcases hx with hx | hx
  · split at hx
    · cases hx
    · exact esc_byt _ x hx
  · simp at hx; omega
theorem kbody_byt : ∀ (l : List Int) (now : Int), l.all M.anyK = true → ∀ x ∈ M.kbody now l, 0 ≤ x ∧ x ≤ 255
  | [], now, _, x, hx => by cases hx
  | n :: l, now, h, x, hx => by
    rw [List.all_cons, Bool.and_eq_true] at h
    have hx' : x ∈ M.kpc now n ++ M.kbody (M.want now n) l := hx
    rw [List.mem_append] at hx'
    rcases hx' with hx | hx
    · exact kpc_byt h.1 x hx
    · exact kbody_byt l _ h.2 x hx
theorem kenc_byt (l : List Int) (h : l.all M.anyK = true) : ∀ x ∈ M.kenc l, 0 ≤ x ∧ x ≤ 255 := by
  intro x hx
  unfold M.kenc at hx
  rw [List.mem_append] at hx
  rcases hx with hx | hx
  · exact kbody_byt l 0 h x hx
  · unfold M.ktail at hx
    split at hx
    · cases hx
    · exact esc_byt 0 x hx
theorem decS_encS (user : Bool) (ys : List Int) (h : ys.all (M.hasB user) = true) : M.decS user (M.encS user ys) = ys := by
  induction ys with
  | nil => rfl
  | cons p t ih =>
    rw [List.all_cons, Bool.and_eq_true] at h
    have := ih h.2
    unfold M.decS M.encS at *
    rw [List.map_cons, List.map_cons, this, M.pt_bof user h.1]
theorem all_S {n : Int} {user : Bool} (hn : n = if user then 5 else 4) {ys : List Int} (h : ys.all (M.hasE n) = true) : ys.all (M.hasB user) = true := by
  rw [List.all_eq_true] at *
  intro x hx
  have := h x hx
  rw [hn, M.hasS] at this
  exact this
theorem back_is {n : Int} (hn : 1 ≤ n ∧ n ≤ 7) {ys : List Int} (hs : ys.all M.sclr = true) (ha : ys.all (M.hasE n) = true) : M.decE (M.outE n) (bl (strOfNums (M.encB n ys))) = ys := by
  rcases M.outE_bd hn with ho | ho | ho | ho
  · rw [← M.encB_out, ho, M.encB_1, bl_str _ (M.enc_byt ys hs), decE_1, M.dec_enc ys hs]
  · have hn4 : n = 4 := by unfold M.outE at ho; split at ho <;> omega
    subst hn4
    have hb := all_S (user := false) rfl ha
    rw [show M.outE 4 = 4 from rfl, show M.encB 4 ys = M.encS false ys from rfl, bl_str _ (M.encS_byt false ys hb), decE_4, decS_encS false ys hb]
  · have hn5 : n = 5 := by unfold M.outE at ho; split at ho <;> omega
    subst hn5
    have hb := all_S (user := true) rfl ha
    rw [show M.outE 5 = 5 from rfl, show M.encB 5 ys = M.encS true ys from rfl, bl_str _ (M.encS_byt true ys hb), decE_5, decS_encS true ys hb]
  · have hn6 : n = 6 := by unfold M.outE at ho; split at ho <;> omega
    subst hn6
    have hb : ys.all M.anyK = true := ha
    rw [show M.outE 6 = 6 from rfl, show M.encB 6 ys = M.kenc ys from rfl, bl_str _ (kenc_byt ys hb), decE_6, M.kdec_enc ys hb]
end Go.Proofs.YtaiinjfnkmidbaaGreatDoor

namespace Go.Proofs.YtaiinjfnkmidbaaGreatDoor
open Go.RowKit
set_option linter.unusedVariables false

def mkB (n : Int) : ByteArray := if n = 1 then ⟨#[239, 187, 191]⟩ else if n = 2 then ⟨#[255, 254]⟩ else if n = 3 then ⟨#[254, 255]⟩ else ⟨#[]⟩
theorem mkB_bl (n : Int) : bl (mkB n) = M.mkL n := by
  unfold mkB M.mkL
  split
  · decide
  · split
    · decide
    · split <;> decide
set_option maxHeartbeats 400000 in
set_option maxRecDepth 100000 in
theorem markOf_any (n : Int) (w : World) : Calls Tryz.prog 36 #[.int .i64 n] w fun e w' => e = .returned (.string (mkB n)) ∧ w' = w := by
  unfold mkB
  by_cases h1 : n = 1
  · subst h1
    go_enter Tryz.func36, Tryz.ntmps36
    go_wp2
    go_ret
    exact ⟨rfl, rfl⟩
  · by_cases h2 : n = 2
    · subst h2
      go_enter Tryz.func36, Tryz.ntmps36
      go_wp2
      go_ret
      exact ⟨rfl, rfl⟩
    · by_cases h3 : n = 3
      · subst h3
        go_enter Tryz.func36, Tryz.ntmps36
        go_wp2
        go_ret
        exact ⟨rfl, rfl⟩
      · have e1 : (n == 1) = false := by simpa using h1
        have e2 : (n == 2) = false := by simpa using h2
        have e3 : (n == 3) = false := by simpa using h3
        rw [if_neg h1, if_neg h2, if_neg h3]
        clear h1 h2 h3
        go_enter Tryz.func36, Tryz.ntmps36
        go_wp2
        go_ret
        exact ⟨rfl, rfl⟩

theorem hasP_no {s p : ByteArray} (h : hasP s p = false) : s.size < p.size ∨ (p.size ≤ s.size ∧ ((s.extract 0 p.size).toList == p.toList) = false) := by
  by_cases hz : p.size ≤ s.size
  · exact .inr ⟨hz, by rw [hasP_at s p hz, h]⟩
  · exact .inl (by omega)
theorem hasP_yes {s p : ByteArray} (h : hasP s p = true) : p.size ≤ s.size ∧ ((s.extract 0 p.size).toList == p.toList) = true := by
  by_cases hz : p.size ≤ s.size
  · exact ⟨hz, by rw [hasP_at s p hz, h]⟩
  · rw [hasP_short s p (by omega)] at h; cases h
set_option maxHeartbeats 800000 in
set_option maxRecDepth 100000 in
theorem sniffOf_any (s : ByteArray) (w : World) (hs : s.size ≤ maxLen) : Calls Tryz.prog 54 #[.string s] w fun e w' => e = .returned (.tuple #[.int .i64 (M.sn (bl s)).1, .int .i64 (M.sn (bl s)).2]) ∧ w' = w := by
  unfold maxLen at hs
  have k1 := fun w => markOf_any 1 w
  have k2 := fun w => markOf_any 2 w
  have k3 := fun w => markOf_any 3 w
  rw [show mkB 1 = ⟨#[239, 187, 191]⟩ from rfl] at k1
  rw [show mkB 2 = ⟨#[255, 254]⟩ from rfl] at k2
  rw [show mkB 3 = ⟨#[254, 255]⟩ from rfl] at k3
  have z1 : (⟨#[239, 187, 191]⟩ : ByteArray).size = 3 := rfl
  have z2 : (⟨#[255, 254]⟩ : ByteArray).size = 2 := rfl
  have z3 : (⟨#[254, 255]⟩ : ByteArray).size = 2 := rfl
  have y1 : (⟨#[239, 187, 191]⟩ : ByteArray).toList = ([239, 187, 191] : List UInt8) := by rw [Lib.toList_data]
  have y2 : (⟨#[255, 254]⟩ : ByteArray).toList = ([255, 254] : List UInt8) := by rw [Lib.toList_data]
  have y3 : (⟨#[254, 255]⟩ : ByteArray).toList = ([254, 255] : List UInt8) := by rw [Lib.toList_data]
  have b1 : bl ⟨#[239, 187, 191]⟩ = [239, 187, 191] := by decide
  have b2 : bl ⟨#[255, 254]⟩ = [255, 254] := by decide
  have b3 : bl ⟨#[254, 255]⟩ = [254, 255] := by decide
  have HS : Hid (M.sn (bl s) = if hasP s ⟨#[239, 187, 191]⟩ then (1, 3) else if hasP s ⟨#[254, 255]⟩ then (3, 2) else if hasP s ⟨#[255, 254]⟩ then (2, 2) else (0, 0)) := hide (by
    unfold M.sn hasP
    simp only [b1, b2, b3, decide_eq_true_eq])
  have HX : Hid (hasP s ⟨#[255, 254]⟩ = true → hasP s ⟨#[254, 255]⟩ = false) := hide (by
    unfold hasP
    rw [b2, b3, decide_eq_true_eq, decide_eq_false_iff_not, M.pre2, M.pre2]
    rintro ⟨t, ht⟩ ⟨u, hu⟩
    rw [ht] at hu; simp at hu)
  cases h1 : hasP s ⟨#[239, 187, 191]⟩
  · have g1 := hasP_no h1
    rw [z1, y1] at g1
    cases h2 : hasP s ⟨#[255, 254]⟩
    · have g2 := hasP_no h2
      rw [z2, y2] at g2
      cases h3 : hasP s ⟨#[254, 255]⟩
      · have g3 := hasP_no h3
        rw [z3, y3] at g3
        have HR : Hid (M.sn (bl s) = (0, 0)) := hide (by rw [unhide HS, h1, h2, h3]; rfl)
        clear HS HX h1 h2 h3 b1 b2 b3 y1 y2 y3
        rcases g1 with g1 | ⟨g1, e1⟩ <;> rcases g2 with g2 | ⟨g2, e2⟩ <;> rcases g3 with g3 | ⟨g3, e3⟩
        all_goals first | (exfalso; omega) | skip
        all_goals
          go_enter Tryz.func54, Tryz.ntmps54
          go_wp2_with fail
          refine wp_loop_rounds 4 ?_
          rw [rounds_succ]
          go_wp2_with fail
          refine (k1 _).mono ?_
          rintro e w1 ⟨rfl, hw⟩
          replace hw := hw.symm
          subst hw
          go_wp2_with fail
          rw [rounds_succ]
          go_wp2_with fail
          refine (k2 _).mono ?_
          rintro e w1 ⟨rfl, hw⟩
          replace hw := hw.symm
          subst hw
          go_wp2_with fail
          rw [rounds_succ]
          go_wp2_with fail
          refine (k3 _).mono ?_
          rintro e w1 ⟨rfl, hw⟩
          replace hw := hw.symm
          subst hw
          go_wp2_with fail
          rw [rounds_succ]
          go_wp2_with fail
          go_ret2
          refine ⟨?_, rfl⟩
          rw [unhide HR]
          rfl
      · obtain ⟨g3, e3⟩ := hasP_yes h3
        rw [z3] at g3
        rw [z3, y3] at e3
        have HR : Hid (M.sn (bl s) = (3, 2)) := hide (by rw [unhide HS, h1, h3]; rfl)
        clear HS HX h1 h2 h3 b1 b2 b3 y1 y2 y3
        rcases g1 with g1 | ⟨g1, e1⟩ <;> rcases g2 with g2 | ⟨g2, e2⟩
        all_goals first | (exfalso; omega) | skip
        all_goals
          go_enter Tryz.func54, Tryz.ntmps54
          go_wp2_with fail
          refine wp_loop_rounds 4 ?_
          rw [rounds_succ]
          go_wp2_with fail
          refine (k1 _).mono ?_
          rintro e w1 ⟨rfl, hw⟩
          replace hw := hw.symm
          subst hw
          go_wp2_with fail
          rw [rounds_succ]
          go_wp2_with fail
          refine (k2 _).mono ?_
          rintro e w1 ⟨rfl, hw⟩
          replace hw := hw.symm
          subst hw
          go_wp2_with fail
          rw [rounds_succ]
          go_wp2_with fail
          refine (k3 _).mono ?_
          rintro e w1 ⟨rfl, hw⟩
          replace hw := hw.symm
          subst hw
          go_wp2_with fail
          go_ret2
          refine ⟨?_, rfl⟩
          rw [unhide HR]
          rfl
    · obtain ⟨g2, e2⟩ := hasP_yes h2
      rw [z2] at g2
      rw [z2, y2] at e2
      have HR : Hid (M.sn (bl s) = (2, 2)) := hide (by rw [unhide HS, h1, unhide HX h2, h2]; rfl)
      clear HS HX h1 h2 b1 b2 b3 y1 y2 y3
      rcases g1 with g1 | ⟨g1, e1⟩
      all_goals
        go_enter Tryz.func54, Tryz.ntmps54
        go_wp2_with fail
        refine wp_loop_rounds 4 ?_
        rw [rounds_succ]
        go_wp2_with fail
        refine (k1 _).mono ?_
        rintro e w1 ⟨rfl, hw⟩
        replace hw := hw.symm
        subst hw
        go_wp2_with fail
        rw [rounds_succ]
        go_wp2_with fail
        refine (k2 _).mono ?_
        rintro e w1 ⟨rfl, hw⟩
        replace hw := hw.symm
        subst hw
        go_wp2_with fail
        go_ret2
        refine ⟨?_, rfl⟩
        rw [unhide HR]
        rfl
  · obtain ⟨g1, e1⟩ := hasP_yes h1
    rw [z1] at g1
    rw [z1, y1] at e1
    have HR : Hid (M.sn (bl s) = (1, 3)) := hide (by rw [unhide HS, h1]; rfl)
    clear HS HX h1 b1 b2 b3 y1 y2 y3
    go_enter Tryz.func54, Tryz.ntmps54
    go_wp2_with fail
    refine wp_loop_rounds 4 ?_
    rw [rounds_succ]
    go_wp2_with fail
    refine (k1 _).mono ?_
    rintro e w1 ⟨rfl, hw⟩
    replace hw := hw.symm
    subst hw
    go_wp2_with fail
    go_ret2
    refine ⟨?_, rfl⟩
    rw [unhide HR]
    rfl
end Go.Proofs.YtaiinjfnkmidbaaGreatDoor

namespace Go.Proofs.YtaiinjfnkmidbaaGreatDoor
open Go.RowKit
set_option linter.unusedVariables false

theorem sc_bad : M.sclr 65533 = true := by decide
theorem ut_bd (big : Bool) {a b : Int} (ha : 0 ≤ a ∧ a ≤ 255) (hb : 0 ≤ b ∧ b ≤ 255) : 0 ≤ M.ut big a b ∧ M.ut big a b ≤ 65535 := by
  unfold M.ut
  cases big <;> simp <;> omega
theorem aln_sclr {u : Int} (h : 0 ≤ u ∧ u ≤ 65535) (hf : M.fst16 u = false) : M.sclr (M.aln u) = true := by
  unfold M.aln
  by_cases hs : M.snd16 u = true
  · rw [if_pos hs]; exact sc_bad
  · rw [if_neg hs]
    unfold M.fst16 at hf
    unfold M.snd16 at hs
    unfold M.sclr
    simp only [decide_eq_true_eq, decide_eq_false_iff_not] at *
    omega
theorem nx16_sclr (big : Bool) (l : List Int) (h : ∀ x ∈ l, 0 ≤ x ∧ x ≤ 255) : M.sclr (M.nx16 big l).1 = true := by
  match l, h with
  | [], _ => exact sc_bad
  | [_], _ => exact sc_bad
  | [a, b], h =>
    have hu := ut_bd big (h a (by simp)) (h b (by simp))
    cases hf : M.fst16 (M.ut big a b)
    · simp only [M.nx16, hf, Bool.false_eq_true, if_false]; exact aln_sclr hu hf
    · simp only [M.nx16, hf, if_true]; exact sc_bad
  | [a, b, c], h =>
    have hu := ut_bd big (h a (by simp)) (h b (by simp))
    cases hf : M.fst16 (M.ut big a b)
    · simp only [M.nx16, hf, Bool.false_eq_true, if_false]; exact aln_sclr hu hf
    · simp only [M.nx16, hf, if_true]; exact sc_bad
  | a :: b :: c :: d :: t, h =>
    have hu := ut_bd big (h a (by simp)) (h b (by simp))
    have hv := ut_bd big (h c (by simp)) (h d (by simp))
    cases hf : M.fst16 (M.ut big a b)
    · simp only [M.nx16, hf, Bool.false_eq_true, if_false]; exact aln_sclr hu hf
    · cases hg : M.snd16 (M.ut big c d)
      · simp only [M.nx16, hf, hg, if_true, Bool.false_eq_true, if_false]; exact sc_bad
      · simp only [M.nx16, hf, hg, if_true]
        unfold M.fst16 at hf
        unfold M.snd16 at hg
        unfold M.sclr
        simp only [decide_eq_true_eq] at *
        omega
theorem dec16_sclr (big : Bool) : ∀ (n : Nat) (l : List Int), l.length ≤ n → (∀ x ∈ l, 0 ≤ x ∧ x ≤ 255) → (M.dec16 big l).all M.sclr = true
  | 0, l, hn, h => by
    have : l = [] := List.eq_nil_of_length_eq_zero (by omega)
    subst this; rfl
  | n + 1, l, hn, h => by
    by_cases hl : l = []
    · subst hl; rfl
    · have hz := M.nx16_size big l hl
      rw [M.dec16_step big hl, List.all_cons, nx16_sclr big l h, dec16_sclr big n _ (by rw [List.length_drop]; omega) (fun x hx => h x (List.mem_of_mem_drop hx))]
      rfl
theorem pt_sclr (user : Bool) {c : Int} (h : 0 ≤ c ∧ c ≤ 255) : M.sclr (M.pt user c) = true := by
  have H : ∀ (u : Bool) (k : Fin 256), M.sclr (M.pt u ((k.val : Nat) : Int)) = true := by decide +kernel
  have := H user ⟨c.toNat, by omega⟩
  rwa [show ((c.toNat : Nat) : Int) = c from by omega] at this
theorem decS_sclr (user : Bool) (l : List Int) (h : ∀ x ∈ l, 0 ≤ x ∧ x ≤ 255) : (M.decS user l).all M.sclr = true := by
  rw [List.all_eq_true]
  intro x hx
  unfold M.decS at hx
  obtain ⟨c, hc, rfl⟩ := List.mem_map.1 hx
  exact pt_sclr user (h c hc)
theorem kpt_sclr (g : Int) {c : Int} (h : 0 ≤ c ∧ c ≤ 255) : M.sclr (M.kpt g c) = true := by
  unfold M.kpt
  split
  · exact sc_bad
  · unfold M.ksn
    split
    · split
      · unfold M.sclr; simp only [decide_eq_true_eq]; omega
      · exact sc_bad
    · split
      · exact sc_bad
      · split
        · decide
        · split
          · decide
          · unfold M.sclr; simp only [decide_eq_true_eq]; omega
theorem gk_sclr (s : Int × Bool) (l : List Int) (hl : l ≠ []) (h : ∀ x ∈ l, 0 ≤ x ∧ x ≤ 255) : (M.gk s l).1.all M.sclr = true := by
  unfold M.gk
  split
  · unfold M.bads; split <;> rfl
  · cases l with
    | nil => exact absurd rfl hl
    | cons c t =>
      show (M.sclr (M.kpt s.1 c) && true) = true
      rw [kpt_sclr s.1 (h c (by simp))]; rfl
theorem totk_sclr : ∀ (n : Nat) (s : Int × Bool) (l : List Int), l.length ≤ n → (∀ x ∈ l, 0 ≤ x ∧ x ≤ 255) → (M.Tot M.gk s l).1.all M.sclr = true
  | 0, s, l, hn, h => by
    have : l = [] := List.eq_nil_of_length_eq_zero (by omega)
    subst this; rw [M.Tot_nil]; rfl
  | n + 1, s, l, hn, h => by
    by_cases hl : l = []
    · subst hl; rw [M.Tot_nil]; rfl
    · have hz := M.gk_size s l hl
      rw [M.Tot_step (fun s l hl => M.gk_size s l hl) hl (show M.gk s l = ((M.gk s l).1, (M.gk s l).2.1, (M.gk s l).2.2) from rfl)]
      show ((M.gk s l).1 ++ _).all M.sclr = true
      rw [List.all_append, gk_sclr s l hl h, totk_sclr n _ _ (by rw [List.length_drop]; omega) (fun x hx => h x (List.mem_of_mem_drop hx))]
      rfl
theorem decE_sclr {e : Int} (he : 1 ≤ e ∧ e ≤ 7) (l : List Int) (h : ∀ x ∈ l, 0 ≤ x ∧ x ≤ 255) : (M.decE e l).all M.sclr = true := by
  unfold M.decE
  obtain rfl | rfl | rfl | rfl | rfl | rfl | rfl := M.seven he
  · rw [M.TE_8]; exact M.dec_sclr l h
  · rw [show (2 : Int) = (if false then 3 else 2) from rfl, M.TE_16 false]; exact dec16_sclr false _ l (Nat.le_refl _) h
  · rw [show (3 : Int) = (if true then 3 else 2) from rfl, M.TE_16 true]; exact dec16_sclr true _ l (Nat.le_refl _) h
  · rw [show (4 : Int) = (if false then 5 else 4) from rfl, M.TE_S false]; exact decS_sclr false l h
  · rw [show (5 : Int) = (if true then 5 else 4) from rfl, M.TE_S true]; exact decS_sclr true l h
  · rw [M.TE_K]; exact totk_sclr _ _ l (Nat.le_refl _) h
  · rw [M.TE_X]; dsimp only; split <;> rfl
theorem whI_sclr (L s : ByteArray) : (whI L (bl s)).all M.sclr = true :=
  decE_sclr (chI_bd L (bl s)).1 _ (fun x hx => bl_byt s x (List.mem_of_mem_drop hx))
theorem whI_few (L s : ByteArray) : (whI L (bl s)).length ≤ s.size := by
  have h := M.TE_few (chI L (bl s)).1 _ M.st0 ((bl s).drop (chI L (bl s)).2.2.toNat) (Nat.le_refl _)
  rw [List.length_drop, bl_len] at h
  unfold whI M.decE
  omega
/-- What is recoded. -/
def rcB (L : ByteArray) (l : List Int) (n : Int) : ByteArray := mkB (M.outE n) ++ strOfNums (M.encB n (M.ptsE n (whI L l)))
end Go.Proofs.YtaiinjfnkmidbaaGreatDoor

namespace Go.Proofs.YtaiinjfnkmidbaaGreatDoor
open Go.RowKit
set_option linter.unusedVariables false

theorem digs_b : M.digs 12354 = [49, 50, 51, 53, 52] := by
  rw [M.digs_hi (by decide), M.digs_hi (by decide), M.digs_hi (by decide), M.digs_hi (by decide), M.digs_lo (by decide)]
  decide
theorem res_b : resW 4 1 [8364, 12354] = .tuple #[.string ⟨#[128, 38, 35, 49, 50, 51, 53, 52, 59]⟩, .int .i64 0] := by
  have h1 : M.hasE 4 8364 = true := by decide +kernel
  have h2 : M.hasE 4 12354 = false := by decide +kernel
  have e : M.ptsE 4 [8364, 12354] = [8364, 38, 35, 49, 50, 51, 53, 52, 59] := by
    show M.ptE 4 8364 ++ (M.ptE 4 12354 ++ []) = _
    rw [M.ptE_yes h1, M.ptE_no h2]
    unfold M.tld
    rw [show (12354 : Int).toNat = 12354 from rfl, digs_b]
    rfl
  rw [resW_yes (.inl rfl), e]
  have : strOfNums (M.encB 4 [8364, 38, 35, 49, 50, 51, 53, 52, 59]) = ⟨#[128, 38, 35, 49, 50, 51, 53, 52, 59]⟩ := by decide +kernel
  rw [this]
theorem res_c : resW 4 0 [12354] = .tuple #[.string ⟨#[]⟩, .int .i64 5] := resW_no rfl (by decide +kernel)

set_option maxHeartbeats 800000 in
set_option maxRecDepth 100000 in
theorem encoderBegun_any (w : World) (hT : Tb w) : Calls Tryz.prog 38 #[] w fun e w' => e = .returned (.bool true) ∧ Below w.heap.size w w' := by
  have o1 := hide (fun w => Output_yes 3 w (by decide))
  rw [show M.outE 3 = 1 from rfl] at o1
  have a1 := hide (fun w => Has_yes 4 8364 w (by decide) (by decide))
  rw [show M.hasE 4 8364 = true from by decide +kernel] at a1
  have a2 := hide (fun w => Has_yes 6 8364 w (by decide) (by decide))
  rw [show M.hasE 6 8364 = false from by decide +kernel] at a2
  have e1 := hide (fun (w' : World) (hb : Below w.heap.size w w') => Enc_ok 4 1 (w'.alloc (.cells #[.int .i64 8364, .int .i64 12354] 3)) (hT.below (bstep hb (balloc _ _))) (by decide) (.inr rfl) (two_ints w' 8364 12354) (by decide) (by decide))
  rw [res_b] at e1
  have e2 := hide (fun (w' : World) (hb : Below w.heap.size w w') => Enc_ok 4 0 (w'.alloc (.cells #[.int .i64 12354] 3)) (hT.below (bstep hb (balloc _ _))) (by decide) (.inl rfl) (one_int w' 12354) (by decide) (by decide))
  rw [res_c] at e2
  clear hT
  go_enter Tryz.func38, Tryz.ntmps38
  go_wp2_with fail
  refine (unhide o1 _).mono ?_
  rintro e w1 ⟨rfl, hb1⟩
  have HB1 := hide hb1
  clear hb1 o1
  go_wp2_with fail
  refine (unhide a1 _).mono ?_
  rintro e w2 ⟨rfl, hb2⟩
  have HB2 := hide (bstep (unhide HB1) hb2)
  clear hb2 a1
  go_wp2_with fail
  refine (unhide a2 _).mono ?_
  rintro e w3 ⟨rfl, hb3⟩
  have HB3 := hide (bstep (unhide HB2) hb3)
  clear hb3 a2
  go_wp2_with fail
  refine (unhide e1 _ (unhide HB3)).mono ?_
  rintro e w4 ⟨rfl, hb4⟩
  have HB4 := hide (bstep (bstep (unhide HB3) (balloc _ _)) hb4)
  clear hb4 e1
  go_wp2_with fail
  refine (unhide e2 _ (unhide HB4)).mono ?_
  rintro e w5 ⟨rfl, hb5⟩
  have HB5 := hide (bstep (bstep (unhide HB4) (balloc _ _)) hb5)
  clear hb5 e2
  go_wp2_with fail
  go_ret
  exact ⟨rfl, unhide HB5⟩
end Go.Proofs.YtaiinjfnkmidbaaGreatDoor

namespace Go.Proofs.YtaiinjfnkmidbaaGreatDoor
open Go.RowKit
set_option linter.unusedVariables false

/-- How many are Bad, and how many far. -/
def cntB (xs : List Int) : Nat := (xs.filter (fun x => x == 65533)).length
def cntF (xs : List Int) : Nat := (xs.filter (fun x => decide (127 < x))).length
def RcSays : Prop := ∀ (L s : ByteArray) (n : Int) (w : World), L.size ≤ 3000 → s.size ≤ 3000 → 1 ≤ n ∧ n ≤ 7 → Mx w → Tb w → Calls Tryz.prog 31 #[.string L, .string s, .int .i64 n] w fun e w' => e = .returned (.tuple #[.string (rcB L (bl s) n), .int .i64 0]) ∧ Below w.heap.size w w'
def RcErrs : Prop := ∀ (L s : ByteArray) (n : Int) (w : World), L.size ≤ maxLen → s.size ≤ maxLen → (3000 < L.size ∨ 3000 < s.size) → Mx w → Tb w → Calls Tryz.prog 31 #[.string L, .string s, .int .i64 n] w fun e w' => e = .returned (.tuple #[.string ⟨#[]⟩, .int .i64 2]) ∧ Below w.heap.size w w'
def RcKind : Prop := ∀ (L s : ByteArray) (n : Int) (w : World), L.size ≤ 3000 → s.size ≤ 3000 → ¬ (1 ≤ n ∧ n ≤ 7) → Mx w → Tb w → Calls Tryz.prog 31 #[.string L, .string s, .int .i64 n] w fun e w' => e = .returned (.tuple #[.string ⟨#[]⟩, .int .i64 6]) ∧ Below w.heap.size w w'
def CtSays : Prop := ∀ (v : Value) (xs : List Int) (w : World), Ints w v xs → xs.length ≤ 3000 → xs.all M.sclr = true → Calls Tryz.prog 32 #[v] w fun e w' => e = .returned (.tuple #[.int .i64 (cntB xs : Int), .int .i64 (cntF xs : Int), .int .i64 0]) ∧ Below w.heap.size w w'
def CtErrs : Prop := ∀ (v : Value) (xs : List Int) (w : World), Ints w v xs → (3000 < xs.length ∨ xs.all M.sclr = false) → Calls Tryz.prog 32 #[v] w fun e w' => e = .returned (.tuple #[.int .i64 0, .int .i64 0, .int .i64 (if 3000 < xs.length then 2 else 3)]) ∧ Below w.heap.size w w'

theorem tb_c1 : chI ⟨#[]⟩ (bl ⟨#[255, 254, 97, 0]⟩) = (2, 1, 2) := by decide +kernel
theorem tb_w1 : whI ⟨#[]⟩ (bl ⟨#[255, 254, 97, 0]⟩) = [97] := by decide +kernel
theorem tb_w2 : whI u8N (bl ⟨#[226, 130, 172]⟩) = [8364] := by decide +kernel
theorem tb_r : rcB u8N (bl ⟨#[226, 130, 172]⟩) 6 = ⟨#[38, 35, 56, 51, 54, 52, 59]⟩ := by
  unfold rcB
  rw [tb_w2]
  have h : M.encB 6 (M.ptsE 6 [8364]) = [38, 35, 56, 51, 54, 52, 59] := by
    rw [show M.ptsE 6 [8364] = [38, 35, 56, 51, 54, 52, 59] from by
      unfold M.ptsE
      simp
      decide +kernel]
    decide +kernel
  rw [h]
  decide +kernel
theorem tb_b : cntB [97, 65533, 228] = 1 := by decide
theorem tb_f : cntF [97, 65533, 228] = 2 := by decide
set_option maxHeartbeats 1600000 in
set_option maxRecDepth 100000 in
theorem begunX_any (hD : DcSays) (hR : RcSays) (hC : CtSays) (w : World) (hM : Mx w) (hT : Tb w) : Calls Tryz.prog 22 #[] w fun e w' => e = .returned (.bool true) ∧ Below w.heap.size w w' := by
  have HM := hide hM
  have HT := hide hT
  have s1 := fun w h => hD ⟨#[]⟩ ⟨#[255, 254, 97, 0]⟩ w (by decide) (by decide) h
  rw [tb_c1, tb_w1] at s1
  have s2 := fun w h h' => hR u8N ⟨#[226, 130, 172]⟩ 6 w (by decide) (by decide) (by decide) h h'
  rw [tb_r] at s2
  have s3 := fun (w : World) (v : Value) (h : Ints w v [97, 65533, 228]) => hC v [97, 65533, 228] w h (by decide) (by decide)
  rw [tb_b, tb_f] at s3
  have S1 := hide s1
  have S2 := hide s2
  have S3 := hide s3
  dsimp only [u8N] at S2
  dsimp only at S1
  clear hD hR hC hM hT s1 s2 s3
  go_enter Tryz.func22, Tryz.ntmps22
  go_wp2_with fail
  refine (unhide S1 _ (unhide HM)).mono ?_
  rintro e w1 ⟨v1, rfl, ho1, hb1⟩
  obtain ⟨ao1, cap1, hsh1⟩ := owns_shape ho1
  subst hsh1
  have I1 := hide (Ints.of_owns ho1)
  have HB1 := hide hb1
  clear hb1 S1 ho1
  go_wp2_with fail
  refine (unhide S2 _ ((unhide HM).below (unhide HB1)) ((unhide HT).below (unhide HB1))).mono ?_
  rintro e w2 ⟨rfl, hb2⟩
  have I2 := hide ((unhide I1).below hb2)
  have HB2 := hide (bstep (unhide HB1) hb2)
  clear hb2 S2 HB1 I1
  go_wp2_with fail
  refine (unhide S3 _ _ (three_ints _ _ _ _)).mono ?_
  rintro e w3 ⟨rfl, hb3⟩
  have I3 := hide (((unhide I2).below (balloc _ _)).below hb3)
  have HB3 := hide (bstep (bstep (unhide HB2) (balloc _ _)) hb3)
  clear hb3 S3 HB2 I2
  go_wp2_with fail
  refine (same_any _ ((unhide I3).below (balloc _ _)) (one_int _ _)).mono ?_
  rintro e w4 ⟨rfl, hb4⟩
  rw [show (([97] : List Int) == [97]) = true from rfl]
  have HB4 := hide (bstep (bstep (unhide HB3) (balloc _ _)) hb4)
  clear hb4 HB3 I3
  go_wp2_with fail
  go_ret
  exact ⟨rfl, unhide HB4⟩
end Go.Proofs.YtaiinjfnkmidbaaGreatDoor

namespace Go.Proofs.YtaiinjfnkmidbaaGreatDoor
open Go.RowKit
set_option linter.unusedVariables false

theorem cntB_app (xs ys : List Int) : cntB (xs ++ ys) = cntB xs + cntB ys := by simp [cntB]
theorem cntF_app (xs ys : List Int) : cntF (xs ++ ys) = cntF xs + cntF ys := by simp [cntF]
theorem cntB_le (xs : List Int) : cntB xs ≤ cntF xs := by
  induction xs with
  | nil => exact Nat.le_refl _
  | cons x t ih =>
    unfold cntB cntF at *
    rw [List.filter_cons, List.filter_cons]
    by_cases h1 : x = 65533
    · subst h1; simp; exact ih
    · have e1 : (x == 65533) = false := by simpa using h1
      rw [e1]
      simp only [Bool.false_eq_true, if_false]
      split
      · simp; omega
      · exact ih
theorem cntF_le (xs : List Int) : cntF xs ≤ xs.length := List.length_filter_le _ _
theorem encB_any {n : Int} (hn : 1 ≤ n ∧ n ≤ 7) {xs : List Int} (h : xs.all M.sclr = true) (hl : xs.length ≤ 3000) : (strOfNums (M.encB n (M.ptsE n xs))).size ≤ 200000 := by
  have h1 := pts_few (n := n) h hl
  generalize M.ptsE n xs = ys at *
  rw [strOfNums_size]
  rcases (show (n = 4 ∨ n = 5) ∨ n = 6 ∨ (n ≠ 4 ∧ n ≠ 5 ∧ n ≠ 6) from by omega) with (h | h) | h | ⟨h4, h5, h6⟩
  · subst h; show (M.encS false _).length ≤ _; rw [M.encS_len]; omega
  · subst h; show (M.encS true _).length ≤ _; rw [M.encS_len]; omega
  · subst h; show (M.kenc _).length ≤ _; have := M.kenc_len ys; omega
  · have e : M.encB n ys = M.enc ys := by unfold M.encB; rw [if_neg h4, if_neg h5, if_neg h6]
    rw [e]; have := M.enc_len ys; omega
theorem ints_at {w : World} {ao : Option Addr} {n c : Nat} {xs : List Int} (h : Ints w (.slice ao n c) xs) (h0 : 0 < xs.length) : ∃ b off, ao = some ⟨b, off, none⟩ ∧ ∀ i, i < xs.length → w.cell? ⟨b, off + i, none⟩ = some (.int .i64 (xs.getD i 0)) := by
  obtain ⟨a, cap, he, _, _, h⟩ := h
  cases he
  rcases h with h | h
  · subst h; cases h0
  · exact h
theorem cnt_take {xs : List Int} {k : Nat} (h : k < xs.length) : cntB (xs.take (k + 1)) = cntB (xs.take k) + (if xs.getD k 0 = 65533 then 1 else 0) ∧ cntF (xs.take (k + 1)) = cntF (xs.take k) + (if 127 < xs.getD k 0 then 1 else 0) := by
  rw [take_snoc xs k h, cntB_app, cntF_app]
  constructor
  · congr 1
    unfold cntB
    by_cases e : xs.getD k 0 = 65533
    · rw [if_pos e, e]; rfl
    · rw [if_neg e]
      have : (xs.getD k 0 == 65533) = false := by simpa using e
      simp only [List.filter_cons, this]; rfl
  · congr 1
    unfold cntF
    by_cases e : 127 < xs.getD k 0
    · rw [if_pos e]; simp only [List.filter_cons, decide_eq_true e]; rfl
    · rw [if_neg e]; simp only [List.filter_cons, decide_eq_false e]; rfl
end Go.Proofs.YtaiinjfnkmidbaaGreatDoor

namespace Go.Proofs.YtaiinjfnkmidbaaGreatDoor
open Go.RowKit
set_option linter.unusedVariables false


set_option maxHeartbeats 400000 in
set_option maxRecDepth 100000 in
theorem dec1_own (s : ByteArray) (w : World) (hs : s.size ≤ 3000) :
    Calls Tryz.prog 148 #[.string s] w fun e w' => ∃ v, e = .returned v ∧ w'.ownsRow w.heap.size 3 1 v (M.dec (bl s)).length ((M.dec (bl s)).map (Value.int .i64)) ∧ Below w.heap.size w w' := by
  go_enter Tryz.func148, Tryz.ntmps148
  go_wp2_with fail
  refine (walk_dec s w.heap.size _ hs (heap_alloc_new _ _)).mono ?_
  rintro e w1 ⟨rfl, v', hv, hown, hbel⟩
  have HO := hide hown
  have hc := cell_of_one hv
  obtain ⟨ao, cap, hsh⟩ := owns_shape hown
  subst hsh
  have hb := hide (((Below.refl w.heap.size w).alloc (Nat.le_refl _) (.cells #[.slice none 0 0] 31)).trans hbel)
  clear hv hown hbel
  go_wp2_with fail
  go_ret
  exact ⟨_, rfl, owns_mono (unhide HO) (by omega), unhide hb⟩

set_option maxHeartbeats 400000 in
set_option maxRecDepth 100000 in
theorem decode_own (s : ByteArray) (w : World) (hs : s.size ≤ 3000) :
    Calls Tryz.prog 89 #[.string s] w fun e w' => ∃ v, e = .returned (.tuple #[v, .int .i64 0]) ∧ w'.ownsRow w.heap.size 3 1 v (M.dec (bl s)).length ((M.dec (bl s)).map (Value.int .i64)) ∧ Below w.heap.size w w' := by
  go_enter Tryz.func89, Tryz.ntmps89
  go_wp2_with (first | (go_at_call 148; refine (dec1_own _ _ hs).mono ?_; rintro e w1 ⟨v, rfl, hI, hb⟩; have HI := hide hI; have HB := hide hb; obtain ⟨ao, cap, rfl⟩ := owns_shape hI; clear hb hI) | go_in)
  go_ret2
  exact ⟨_, rfl, unhide HI, unhide HB⟩

set_option maxHeartbeats 400000 in
set_option maxRecDepth 100000 in
theorem dec16_ino (big : Bool) (s : ByteArray) (B : Nat) (w : World) (hs : s.size ≤ 3000) (hB : w.cell? ⟨B, 0, none⟩ = some (.bool big)) :
    Calls Tryz.prog 151 #[.string s, .pointer (some ⟨B, 0, none⟩)] w fun e w' => ∃ v, e = .returned v ∧ w'.ownsRow w.heap.size 3 1 v (M.dec16 big (bl s)).length ((M.dec16 big (bl s)).map (Value.int .i64)) ∧ Below w.heap.size w w' := by
  have hlt := World.block_lt_of_cell? w _ hB
  have HB := hide hB
  have HI : InU big s w w 0 [] (.slice none 0 0) := ⟨World.ownsRow_nil _ _ _ _, Below.refl _ _, Nat.le_refl _, by simp⟩
  clear hB
  go_enter Tryz.func151, Tryz.ntmps151
  go_wp2_with fail
  go_loopw [4, 5] (fun v i wr => ∃ (k : Nat) (xs : List Int), k ≤ s.size ∧ i = .int .i64 k ∧ InU big s w wr k xs v) (fun _ i _ => s.size - (intOf i).toNat)
  case atStart => exact ⟨0, [], by omega, rfl, HI⟩
  case round =>
    obtain ⟨k, xs, hk, rfl, hI⟩ := hrel
    clear HI
    have hsz := hI.2.1.size
    have hxs := hI.2.2.1
    by_cases hks : k < s.size
    · have hcb : wr.cell? ⟨B, 0, none⟩ = some (.bool big) := (hI.2.1.cell (p := ⟨B, 0, none⟩) hlt).trans (unhide HB)
      obtain ⟨p, z, HN⟩ : ∃ p z, Hid (M.nx16 big ((bl s).drop k) = (p, z)) := ⟨_, _, rfl⟩
      have hz := M.nx16_size big ((bl s).drop k) (fun e => by have := congrArg List.length e; simp [bl_len] at this; omega)
      rw [unhide HN] at hz
      simp only [List.length_drop, bl_len] at hz
      have HR : Hid (∀ w : World, Calls Tryz.prog 152 #[.bool big, .string (s.extract k s.size)] w fun e w' => e = .returned (.tuple #[.int .i64 p, .int .i64 (z : Int)]) ∧ ∃ m, w' = w.drewN m) := by
        refine hide fun w => ?_
        have := next_any big (s.extract k s.size) w (by simp; omega) (by simp; omega)
        rw [bl_extract, unhide HN] at this
        exact this
      obtain ⟨ao, cap, hsh⟩ := owns_shape hI.1
      subst hsh
      go_wp2_with fail
      go_quiet ((go_at_call 152; exact Calls.quiet_of (unhide HR _)))
      go_wp2_with (at_builtin; refine append_ints rfl (.tmp 20) (.tmp 22) rfl w.heap.size _ xs rfl (owns_da hI.1 _ _) _ [p] rfl (one_int _ _) (by simp; omega) (by simp; omega) ?_)
      intro v2 w2 ho2 hb2
      have HI := hI.step (v2 := v2) hks HN hz.1 (by simpa using ho2) (((below_drewN (Below.refl _ _) _).alloc hsz _).trans hb2)
      obtain ⟨ao2, cap2, hsh2⟩ := owns_shape ho2
      subst hsh2
      clear hI ho2 hb2
      go_wp2_with fail
      go_roundw
      case rel => exact ⟨k + z, xs ++ [p], by omega, by go_num, HI⟩
      case measure => simp [intOf]; omega
    · obtain ⟨h1, h2, h3, h4⟩ := hI
      rw [List.drop_of_length_le (by rw [bl_len]; omega), M.dec16_nil, List.append_nil] at h4
      have HV := hide h1
      rw [h4] at HV
      obtain ⟨ao, cap, hsh⟩ := owns_shape h1
      subst hsh
      have hl := congrArg List.length h4
      clear h1 h4
      go_wp2_with fail
      go_ret
      exact ⟨_, rfl, unhide HV, h2⟩

set_option maxHeartbeats 400000 in
set_option maxRecDepth 100000 in
theorem decode16_own (big : Bool) (s : ByteArray) (w : World) (hs : s.size ≤ 3000) :
    Calls Tryz.prog 90 #[.bool big, .string s] w fun e w' => ∃ v, e = .returned (.tuple #[v, .int .i64 0]) ∧ w'.ownsRow w.heap.size 3 1 v (M.dec16 big (bl s)).length ((M.dec16 big (bl s)).map (Value.int .i64)) ∧ Below w.heap.size w w' := by
  go_enter Tryz.func90, Tryz.ntmps90
  go_wp2_with (first | (go_at_call 151; refine (dec16_ino big _ _ _ hs (by simp)).mono ?_; rintro e w1 ⟨v, rfl, hI, hb⟩; have HI := hide hI; have HB := hide (bstep (balloc _ _) hb); obtain ⟨ao, cap, rfl⟩ := owns_shape hI; clear hb hI) | go_in)
  go_ret2
  exact ⟨_, rfl, owns_mono (unhide HI) (by simp), unhide HB⟩

set_option maxHeartbeats 400000 in
set_option maxRecDepth 100000 in
theorem decS_ino (user : Bool) (s : ByteArray) (B : Nat) (w : World) (hs : s.size ≤ 3000) (hB : w.cell? ⟨B, 0, none⟩ = some (.bool user)) :
    Calls Tryz.prog 153 #[.string s, .pointer (some ⟨B, 0, none⟩)] w fun e w' => ∃ v, e = .returned v ∧ w'.ownsRow w.heap.size 3 1 v (M.decS user (bl s)).length ((M.decS user (bl s)).map (Value.int .i64)) ∧ Below w.heap.size w w' := by
  go_enter Tryz.func153, Tryz.ntmps153
  go_wp2_with fail
  refine (pointsOf_any user _).mono ?_
  rintro e w1 ⟨v1, rfl, hI1, hb1⟩
  obtain ⟨ao1, cap1, hsh1, -, -, hc1⟩ := hI1
  subst hsh1
  rw [M.tblOf_len]
  rw [M.tblOf_len] at hc1
  obtain ⟨b, off, rfl, hcc⟩ : ∃ b off, ao1 = some ⟨b, off, none⟩ ∧ ∀ i, i < 256 → w1.cell? ⟨b, off + i, none⟩ = some (.int .i64 ((M.tblOf user 256).getD i 0)) := by
    rcases hc1 with h | h
    · have := congrArg List.length h; rw [M.tblOf_len] at this; simp at this
    · exact h
  have hbl : b < w1.heap.size := World.block_lt_of_cell? w1 _ (hcc 0 (by omega))
  have HC := hide hcc
  have HI : Hid (InS user s w1 w1 0 (.slice none 0 0)) := hide ⟨World.ownsRow_nil _ _ _ _, Below.refl _ _⟩
  clear hc1 hcc hB
  go_wp2_with fail
  go_loopw [5, 11] (fun v i wr => ∃ k : Nat, k ≤ s.size ∧ i = .int .i64 k ∧ InS user s w1 wr k v) (fun _ i _ => s.size - (intOf i).toNat)
  case atStart => exact ⟨0, by omega, rfl, unhide HI⟩
  case round =>
    obtain ⟨k, hk, rfl, hI⟩ := hrel
    clear HI
    have hz := hI.2.size
    have hl : Hid ((M.decS user ((bl s).take k)).length = k) := hide (by rw [M.decS_len, List.length_take, bl_len]; omega)
    obtain ⟨ao, cap, hsh⟩ := owns_shape hI.1
    subst hsh
    by_cases hlt : k < s.size
    · obtain ⟨c, hc⟩ : ∃ c : Nat, s[k].toNat = c := ⟨_, rfl⟩
      have hcb : c < 256 := by have := s[k].toNat_lt; omega
      have hcell : wr.cell? ⟨b, off + c, none⟩ = some (.int .i64 (M.pt user (c : Int))) := by
        rw [hI.2.cell (p := ⟨b, off + c, none⟩) hbl, unhide HC c hcb, M.tblOf_get user hcb]
      have hci : (s[k].toNat : Int) = (c : Int) := by omega
      have hbr : b < wr.heap.size := by omega
      obtain ⟨p, HP⟩ : ∃ p, Hid (M.pt user (c : Int) = p) := ⟨_, rfl⟩
      rw [unhide HP] at hcell
      have HCC := hide hci
      go_wp2_with (at_builtin; refine append_ints rfl (.tmp 14) (.tmp 21) rfl w1.heap.size _ (M.decS user ((bl s).take k)) rfl (owns_a hI.1 _) _ [p] rfl (one_int _ _) (by rw [unhide hl]; simp; omega) (by simp; omega) ?_)
      intro v2 w2 ho2 hb2
      have HJ : Hid (InS user s w1 w2 (k + 1) v2) := hide (hI.step hlt (unhide HCC) (unhide HP) (by simpa using ho2) (((Below.refl _ _).alloc hz _).trans hb2))
      obtain ⟨ao2, cap2, hsh2⟩ := owns_shape ho2
      subst hsh2
      clear hI ho2 hb2
      go_wp2_with fail
      go_roundw
      case rel => exact ⟨k + 1, by omega, by go_num, by simpa using unhide HJ⟩
      case measure => simp [intOf]; omega
    · have ek : k = s.size := by omega
      have HV := hide (owns_mono hI.1 hb1.size)
      have et : (bl s).take k = bl s := List.take_of_length_le (by rw [bl_len]; omega)
      rw [et] at HV
      have HB := hide (bstep hb1 hI.2)
      rw [et]
      clear hI et hl
      go_wp2_with fail
      go_ret
      exact ⟨_, rfl, unhide HV, unhide HB⟩

set_option maxHeartbeats 400000 in
set_option maxRecDepth 100000 in
theorem decodeS_own (user : Bool) (s : ByteArray) (w : World) (hs : s.size ≤ 3000) :
    Calls Tryz.prog 91 #[.bool user, .string s] w fun e w' => ∃ v, e = .returned (.tuple #[v, .int .i64 0]) ∧ w'.ownsRow w.heap.size 3 1 v (M.decS user (bl s)).length ((M.decS user (bl s)).map (Value.int .i64)) ∧ Below w.heap.size w w' := by
  go_enter Tryz.func91, Tryz.ntmps91
  go_wp2_with (first | (go_at_call 153; refine (decS_ino user _ _ _ hs (by simp)).mono ?_; rintro e w1 ⟨v, rfl, hI, hb⟩; have HI := hide hI; have HB := hide (bstep (balloc _ _) hb); obtain ⟨ao, cap, rfl⟩ := owns_shape hI; clear hb hI) | go_in)
  go_ret2
  exact ⟨_, rfl, owns_mono (unhide HI) (by simp), unhide HB⟩

set_option maxHeartbeats 800000 in
set_option maxRecDepth 100000 in
theorem stop_texto (s : ByteArray) (w : World) (hs : s.size ≤ 3000) : Calls Tryz.prog 93 #[.string s, .func (Fn.func 94) #[] #[]] w fun e w' => ∃ v, e = .returned (.tuple #[v, .int .i64 0]) ∧ w'.ownsRow w.heap.size 3 1 v (M.decE 7 (bl s)).length ((M.decE 7 (bl s)).map (Value.int .i64)) ∧ Below w.heap.size w w' := by
  have HD := hide (decE_7 s)
  go_enter Tryz.func93, Tryz.ntmps93
  go_wp2_with fail
  refine (stop_any s _).mono ?_
  rintro e w1 ⟨v, rfl, hI, hb⟩
  obtain ⟨ao, cap, rfl⟩ := owns_shape hI
  have HI := hide hI
  have HB := hide hb
  clear hI hb
  generalize (if s.size = 0 then [] else [(65533 : Int)]) = L at *
  go_wp2_with fail
  go_ret2
  exact ⟨_, rfl, by rw [unhide HD]; exact unhide HI, unhide HB⟩

set_option maxHeartbeats 1600000 in
set_option maxRecDepth 100000 in
theorem sdecode_own (e : Int) (s : ByteArray) (w : World) (he : 1 ≤ e ∧ e ≤ 7) (hs : s.size ≤ 3000) : Calls Tryz.prog 42 #[.int .i64 e, .string s] w fun e' w' => ∃ v, e' = .returned (.tuple #[v, .int .i64 0]) ∧ w'.ownsRow w.heap.size 3 1 v (M.decE e (bl s)).length ((M.decE e (bl s)).map (Value.int .i64)) ∧ Below w.heap.size w w' := by
  obtain rfl | rfl | rfl | rfl | rfl | rfl | rfl : e = 1 ∨ e = 2 ∨ e = 3 ∨ e = 4 ∨ e = 5 ∨ e = 6 ∨ e = 7 := by omega
  · have H := fun w => decode_own s w hs
    have HD := hide (decE_1 (bl s))
    go_enter Tryz.func42, Tryz.ntmps42
    go_wp2_with fail
    refine (H _).mono ?_
    rintro e w1 ⟨v, rfl, hI, hb⟩
    rw [← unhide HD] at hI
    have HI := hide hI
    have HB := hide hb
    obtain ⟨ao, cap, rfl⟩ := owns_shape hI
    clear hb H hI
    go_wp2_with fail
    go_ret2
    exact ⟨_, rfl, unhide HI, unhide HB⟩
  · have H := fun w => decode16_own false s w hs
    have HD := hide (decE_2 (bl s))
    go_enter Tryz.func42, Tryz.ntmps42
    go_wp2_with fail
    refine (H _).mono ?_
    rintro e w1 ⟨v, rfl, hI, hb⟩
    rw [← unhide HD] at hI
    have HI := hide hI
    have HB := hide hb
    obtain ⟨ao, cap, rfl⟩ := owns_shape hI
    clear hb H hI
    go_wp2_with fail
    go_ret2
    exact ⟨_, rfl, unhide HI, unhide HB⟩
  · have H := fun w => decode16_own true s w hs
    have HD := hide (decE_3 (bl s))
    go_enter Tryz.func42, Tryz.ntmps42
    go_wp2_with fail
    refine (H _).mono ?_
    rintro e w1 ⟨v, rfl, hI, hb⟩
    rw [← unhide HD] at hI
    have HI := hide hI
    have HB := hide hb
    obtain ⟨ao, cap, rfl⟩ := owns_shape hI
    clear hb H hI
    go_wp2_with fail
    go_ret2
    exact ⟨_, rfl, unhide HI, unhide HB⟩
  · have H := fun w => decodeS_own false s w hs
    have HD := hide (decE_4 (bl s))
    go_enter Tryz.func42, Tryz.ntmps42
    go_wp2_with fail
    refine (H _).mono ?_
    rintro e w1 ⟨v, rfl, hI, hb⟩
    rw [← unhide HD] at hI
    have HI := hide hI
    have HB := hide hb
    obtain ⟨ao, cap, rfl⟩ := owns_shape hI
    clear hb H hI
    go_wp2_with fail
    go_ret2
    exact ⟨_, rfl, unhide HI, unhide HB⟩
  · have H := fun w => decodeS_own true s w hs
    have HD := hide (decE_5 (bl s))
    go_enter Tryz.func42, Tryz.ntmps42
    go_wp2_with fail
    refine (H _).mono ?_
    rintro e w1 ⟨v, rfl, hI, hb⟩
    rw [← unhide HD] at hI
    have HI := hide hI
    have HB := hide hb
    obtain ⟨ao, cap, rfl⟩ := owns_shape hI
    clear hb H hI
    go_wp2_with fail
    go_ret2
    exact ⟨_, rfl, unhide HI, unhide HB⟩
  · have H := fun w => kdecode_own s w hs
    have HD := hide (decE_6 (bl s))
    go_enter Tryz.func42, Tryz.ntmps42
    go_wp2_with fail
    refine (H _).mono ?_
    rintro e w1 ⟨v, rfl, hI, hb⟩
    rw [← unhide HD] at hI
    have HI := hide hI
    have HB := hide hb
    obtain ⟨ao, cap, rfl⟩ := owns_shape hI
    clear hb H hI
    go_wp2_with fail
    go_ret2
    exact ⟨_, rfl, unhide HI, unhide HB⟩
  · have H := fun w => stop_texto s w hs
    go_enter Tryz.func42, Tryz.ntmps42
    go_wp2_with fail
    refine (H _).mono ?_
    rintro e w1 ⟨v, rfl, hI, hb⟩
    have HI := hide hI
    have HB := hide hb
    obtain ⟨ao, cap, rfl⟩ := owns_shape hI
    clear hb H hI
    go_wp2_with fail
    go_ret2
    exact ⟨_, rfl, unhide HI, unhide HB⟩

end Go.Proofs.YtaiinjfnkmidbaaGreatDoor

namespace Go.Proofs.YtaiinjfnkmidbaaGreatDoor
open Go.RowKit
set_option linter.unusedVariables false

set_option maxHeartbeats 800000 in
set_option maxRecDepth 100000 in
theorem dcSays : DcSays := by
  intro name s w hn hs hM
  have HM := hide hM
  have hl := hide (bl_len s)
  have HC := hide (fun w h => chSays name s w hn hs h)
  have hbd := chI_bd name (bl s)
  rw [unhide hl] at hbd
  have HW : Hid (whI name (bl s) = M.decE (chI name (bl s)).1 ((bl s).drop (chI name (bl s)).2.2.toNat)) := hide rfl
  obtain ⟨n, y, m, HX⟩ : ∃ n y m, Hid (chI name (bl s) = (n, y, m)) := ⟨_, _, _, hide rfl⟩
  rw [unhide HX] at HC hbd HW
  simp only at HC hbd HW
  obtain ⟨he, hy, hm0, hm3, hml⟩ := hbd
  obtain ⟨k, rfl⟩ : ∃ k : Nat, m = (k : Int) := ⟨m.toNat, by omega⟩
  rw [Int.toNat_natCast, ← bl_extract] at HW
  have HD := hide (fun w => sdecode_own n (s.extract k s.size) w he (by simp; omega))
  rw [← unhide HW] at HD
  rw [unhide HX]
  generalize whI name (bl s) = L at *
  clear HW hM HX
  go_enter Tryz.func23, Tryz.ntmps23
  go_wp2_with fail
  refine (unhide HC _ (unhide HM)).mono ?_
  rintro e w1 ⟨rfl, hb1⟩
  have hz1 := hb1.size
  have HB1 := hide hb1
  clear hb1
  go_wp2_with fail
  refine (unhide HD _).mono ?_
  rintro e w2 ⟨v, rfl, ho2, hb2⟩
  obtain ⟨ao, cap, hsh⟩ := owns_shape ho2
  subst hsh
  have HO := hide (owns_mono ho2 hz1)
  have HB2 := hide (bstep (unhide HB1) hb2)
  clear ho2 hb2
  go_wp2_with fail
  refine bodyPost_ret (results_tmp4 rfl _ _ _) rfl ?_
  exact ⟨.slice ao L.length cap, rfl, unhide HO, unhide HB2⟩

set_option maxHeartbeats 800000 in
set_option maxRecDepth 100000 in
theorem dcErrs : DcErrs := by
  intro name s w hn hs h hM
  have HM := hide hM
  have HC := hide (fun w hm => chErrs name s w hn hs h hm)
  clear hM h hn hs
  go_enter Tryz.func23, Tryz.ntmps23
  go_wp2_with fail
  refine (unhide HC _ (unhide HM)).mono ?_
  rintro e w1 ⟨rfl, hb1⟩
  have HB1 := hide hb1
  clear hb1
  go_wp2_with fail
  refine bodyPost_ret (results_tmp4 rfl _ _ _) rfl ?_
  exact ⟨.slice none 0 0, rfl, Ints.nil _, unhide HB1⟩

set_option maxHeartbeats 800000 in
set_option maxRecDepth 100000 in
theorem rcErrs : RcErrs := by
  intro name s n w hn hs h hM hT
  have HM := hide hM
  have HD := hide (fun w hm => dcErrs name s w hn hs h hm)
  clear hM h hn hs hT
  go_enter Tryz.func31, Tryz.ntmps31
  go_wp2_with fail
  refine (unhide HD _ (unhide HM)).mono ?_
  rintro e w1 ⟨v1, rfl, hI1, hb1⟩
  obtain ⟨ao1, cap1, rfl, -⟩ := hI1
  have HB1 := hide hb1
  clear hb1
  go_wp2_with fail
  go_ret2
  exact ⟨rfl, unhide HB1⟩

set_option maxHeartbeats 800000 in
set_option maxRecDepth 100000 in
theorem rcKind : RcKind := by
  intro name s n w hn hs h hM hT
  have HM := hide hM
  have HD := hide (fun w hm => dcSays name s w hn hs hm)
  have HK := hide (fun ao len cap w => Enc_kind n 1 ao len cap w h)
  generalize whI name (bl s) = L at *
  generalize (chI name (bl s)).1 = c1 at *
  generalize (chI name (bl s)).2.1 = c2 at *
  clear hM h hn hs hT
  go_enter Tryz.func31, Tryz.ntmps31
  go_wp2_with fail
  refine (unhide HD _ (unhide HM)).mono ?_
  rintro e w1 ⟨v1, rfl, ho1, hb1⟩
  obtain ⟨ao1, cap1, rfl⟩ := owns_shape ho1
  have HB1 := hide hb1
  clear hb1 ho1
  go_wp2_with fail
  refine (unhide HK _ _ _ _).mono ?_
  rintro e w2 ⟨rfl, hb2⟩
  have HB2 := hide (bstep (unhide HB1) hb2)
  clear hb2
  go_wp2_with fail
  go_ret2
  exact ⟨rfl, unhide HB2⟩

set_option maxHeartbeats 1600000 in
set_option maxRecDepth 100000 in
theorem rcSays : RcSays := by
  intro name s n w hn hs h hM hT
  have HM := hide hM
  have HT := hide hT
  have HD := hide (fun w hm => dcSays name s w hn hs hm)
  have hsc := whI_sclr name s
  have hfw := whI_few name s
  have HRC : Hid (rcB name (bl s) n = mkB (M.outE n) ++ strOfNums (M.encB n (M.ptsE n (whI name (bl s))))) := hide rfl
  have hz2 := encB_any h hsc (by omega)
  have hz1 : (mkB (M.outE n)).size ≤ 3 := by unfold mkB; split <;> (try split) <;> (try split) <;> decide
  have HE := hide (fun (w : World) (v : Value) (ht : Tb w) (hi : Ints w v (whI name (bl s))) => Enc_ok n 1 w ht h (.inr rfl) hi (by omega) hsc)
  rw [resW_yes (.inl rfl)] at HE
  have HO := hide (fun w => Output_yes n w h)
  have ho7 : 1 ≤ M.outE n ∧ M.outE n ≤ 7 := by unfold M.outE; split <;> omega
  have HP : Hid (∀ w : World, Calls Tryz.prog 61 #[.int .i64 (M.outE n), .string ⟨#[]⟩] w fun e w' => e = .returned (.tuple #[.string (mkB (M.outE n)), .int .i64 0]) ∧ Below w.heap.size w w') := hide (fun w => (Put_any (M.outE n) ⟨#[]⟩ w ho7 (by decide)).mono fun e w' h => by
    obtain ⟨t, rfl, ht, hb⟩ := h
    refine ⟨?_, hb⟩
    rw [show bl ⟨#[]⟩ = [] from rfl, List.append_nil, ← mkB_bl] at ht
    rw [← str_bl t, ht, str_bl])
  rw [unhide HRC]
  generalize strOfNums (M.encB n (M.ptsE n (whI name (bl s)))) = T at *
  generalize mkB (M.outE n) = MK at *
  generalize M.outE n = oe at *
  generalize whI name (bl s) = L at *
  generalize (chI name (bl s)).1 = c1 at *
  generalize (chI name (bl s)).2.1 = c2 at *
  clear hM hn hs hT HRC hsc hfw
  go_enter Tryz.func31, Tryz.ntmps31
  go_wp2_with fail
  refine (unhide HD _ (unhide HM)).mono ?_
  rintro e w1 ⟨v1, rfl, ho1, hb1⟩
  have I1 := hide (Ints.of_owns ho1)
  obtain ⟨ao1, cap1, rfl⟩ := owns_shape ho1
  have HB1 := hide hb1
  clear hb1 ho1 HD
  go_wp2_with fail
  refine (unhide HE _ _ ((unhide HT).below (unhide HB1)) (unhide I1)).mono ?_
  rintro e w2 ⟨rfl, hb2⟩
  have HB2 := hide (bstep (unhide HB1) hb2)
  clear hb2 HE I1
  go_wp2_with fail
  refine (unhide HO _).mono ?_
  rintro e w3 ⟨rfl, hb3⟩
  have HB3 := hide (bstep (unhide HB2) hb3)
  clear hb3 HO
  go_wp2_with fail
  refine (unhide HP _).mono ?_
  rintro e w4 ⟨rfl, hb4⟩
  have HB4 := hide (bstep (unhide HB3) hb4)
  clear hb4 HP
  go_wp2_with fail
  go_ret2
  exact ⟨rfl, unhide HB4⟩

set_option maxHeartbeats 800000 in
set_option maxRecDepth 100000 in
theorem ctErrs : CtErrs := by
  intro v xs w hI h
  by_cases h1 : 3000 < xs.length
  · obtain ⟨ao, cap, rfl, hm, -, -⟩ := hI
    have HE := hide (fun w => encode_many ao xs.length cap w h1 hm)
    rw [if_pos h1]
    clear h h1 hm
    go_enter Tryz.func32, Tryz.ntmps32
    go_wp2_with fail
    refine (unhide HE _).mono ?_
    rintro e w1 ⟨rfl, hw⟩
    replace hw := hw.symm
    subst hw
    go_wp2_with fail
    go_ret3
    exact ⟨rfl, Below.refl _ _⟩
  · have h2 : xs.all M.sclr = false := by rcases h with h | h; exact absurd h h1; exact h
    have HE := hide (encode_any w hI (by omega))
    rw [encRes_no h2] at HE
    rw [if_neg h1]
    obtain ⟨ao, cap, rfl, hm, -, -⟩ := hI
    clear h h1 h2 hm
    go_enter Tryz.func32, Tryz.ntmps32
    go_wp2_with fail
    refine (unhide HE).mono ?_
    rintro e w1 ⟨hb1, rfl⟩
    have HB1 := hide hb1
    clear hb1
    go_wp2_with fail
    go_ret3
    exact ⟨rfl, unhide HB1⟩

set_option maxHeartbeats 1600000 in
set_option maxRecDepth 100000 in
theorem ctSays : CtSays := by
  intro v xs w hI hl hs
  have HE := hide (encode_any w hI hl)
  rw [encRes_yes hs] at HE
  have HI := hide hI
  obtain ⟨ao, cap, rfl, hm, -, -⟩ := hI
  generalize strOfNums (M.enc xs) = T at *
  clear hs hm
  go_enter Tryz.func32, Tryz.ntmps32
  go_wp2_with fail
  refine (unhide HE).mono ?_
  rintro e w1 ⟨hb1, rfl⟩
  have I1 := hide ((unhide HI).below hb1)
  have HB1 := hide hb1
  clear hb1 HE HI
  go_wp2_with fail
  go_loopw [7, 8, 21] (fun kv hv' iv wr => ∃ k : Nat, k ≤ xs.length ∧ iv = .int .i64 k ∧ kv = .int .i64 (cntB (xs.take k) : Int) ∧ hv' = .int .i64 (cntF (xs.take k) : Int) ∧ wr = w1) (fun _ _ iv _ => xs.length - (intOf iv).toNat)
  case atStart => exact ⟨0, by omega, rfl, by simp [cntB], by simp [cntF], rfl⟩
  case round =>
    obtain ⟨k, hk, rfl, rfl, rfl, hwr⟩ := hrel
    replace hwr := hwr.symm
    subst hwr
    by_cases hlt : k < xs.length
    · obtain ⟨b, off, rfl, hcell⟩ := ints_at (unhide I1) (by omega)
      have hc := hcell k hlt
      have HC := hide (cnt_take hlt)
      have hb1 := cntB_le (xs.take k)
      have hb2 := cntF_le (xs.take k)
      have hb3 := List.length_take_le k xs
      have hbt := World.block_lt_of_cell? w1 _ hc
      clear hcell
      generalize xs.getD k 0 = c at *
      have hltI : (k : Int) < (xs.length : Int) := by omega
      by_cases h65 : c = 65533
      · subst h65
        rw [if_pos rfl, if_pos (by decide)] at HC
        go_wp2_with fail
        go_roundw
        case rel => exact ⟨k + 1, by omega, by go_num, by rw [(unhide HC).1]; go_num, by rw [(unhide HC).2]; go_num, by trivial⟩
        case measure => simp [intOf]; omega
      · have e65 : (c == 65533) = false := beq_eq_false_iff_ne.2 h65
        rw [if_neg h65] at HC
        by_cases h127 : 127 < c
        · rw [if_pos h127] at HC
          clear h65
          go_wp2_with fail
          go_roundw
          case rel => exact ⟨k + 1, by omega, by go_num, by rw [(unhide HC).1]; go_num, by rw [(unhide HC).2]; go_num, by trivial⟩
          case measure => simp [intOf]; omega
        · rw [if_neg h127] at HC
          clear h65
          go_wp2_with fail
          go_roundw
          case rel => exact ⟨k + 1, by omega, by go_num, by rw [(unhide HC).1]; go_num, by rw [(unhide HC).2]; go_num, by trivial⟩
          case measure => simp [intOf]; omega
    · have ek : xs.take k = xs := List.take_of_length_le (by omega)
      rw [ek]
      go_wp2_with fail
      go_ret3
      exact ⟨rfl, unhide HB1⟩
end Go.Proofs.YtaiinjfnkmidbaaGreatDoor
