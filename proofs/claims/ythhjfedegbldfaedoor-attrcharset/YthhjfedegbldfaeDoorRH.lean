/- The contracts of api.Labels and of the reference's FindOf: the encoding whose label a text is, or none; nothing that was there is written. Condition: at most 3000 bytes. -/
import Derived.Test.YthhjfedegbldfaeDoorRG
namespace Go.Proofs.YthhjfedegbldfaeDoor
open Go.RowKit
set_option linter.unusedVariables false

/-- The cells of a table. -/
def tabCells (l : List (ByteArray × Int)) : Array Value := (l.flatMap fun x => [.string x.1, .int .i64 x.2]).toArray
/-- The table l lies at block b. -/
def Tab (w : World) (b : Nat) (l : List (ByteArray × Int)) : Prop :=
  ∀ i (h : i < l.length), w.cell? ⟨b, i * 2, none⟩ = some (.string l[i].1) ∧ w.cell? ⟨b, i * 2 + 1, none⟩ = some (.int .i64 l[i].2)

theorem tabCells_at : ∀ (l : List (ByteArray × Int)) (i : Nat) (h : i < l.length), (l.flatMap fun x => [Value.string x.1, Value.int .i64 x.2])[i * 2]? = some (.string l[i].1) ∧ (l.flatMap fun x => [Value.string x.1, Value.int .i64 x.2])[i * 2 + 1]? = some (.int .i64 l[i].2) := by
  intro l
  induction l with
  | nil => intro i h; simp at h
  | cons x t ih =>
    intro i h
    cases i with
    | zero => simp
    | succ i =>
      have := ih i (by simpa using h)
      have e1 : (i + 1) * 2 = i * 2 + 2 := by omega
      rw [e1]
      simpa [List.flatMap_cons] using this

theorem Tab.new (w : World) (l : List (ByteArray × Int)) (t : TypeId) : Tab (w.alloc (.cells (tabCells l) t)) w.heap.size l := by
  intro i h
  have := tabCells_at l i h
  rw [World.cell?_alloc_at _ _ _ _ rfl, World.cell?_alloc_at _ _ _ _ rfl]
  unfold tabCells
  simpa using this
theorem Tab.below {w w' : World} {b : Nat} {l : List (ByteArray × Int)} (h : Tab w b l) (hb : Below w.heap.size w w') : Tab w' b l := by
  intro i hi
  obtain ⟨h1, h2⟩ := h i hi
  exact ⟨(hb.cell (p := ⟨b, i * 2, none⟩) (World.block_lt_of_cell? w _ h1)).trans h1, (hb.cell (p := ⟨b, i * 2 + 1, none⟩) (World.block_lt_of_cell? w _ h2)).trans h2⟩

def labs : List (ByteArray × Int) := [(⟨#[117, 110, 105, 99, 111, 100, 101, 45, 49, 45, 49, 45, 117, 116, 102, 45, 56]⟩, 1), (⟨#[117, 116, 102, 45, 56]⟩, 1), (⟨#[117, 116, 102, 56]⟩, 1), (⟨#[117, 116, 102, 45, 49, 54]⟩, 2), (⟨#[117, 116, 102, 45, 49, 54, 108, 101]⟩, 2), (⟨#[117, 110, 105, 99, 111, 100, 101]⟩, 2), (⟨#[117, 116, 102, 45, 49, 54, 98, 101]⟩, 3), (⟨#[117, 110, 105, 99, 111, 100, 101, 102, 102, 102, 101]⟩, 3), (⟨#[119, 105, 110, 100, 111, 119, 115, 45, 49, 50, 53, 50]⟩, 4), (⟨#[99, 112, 49, 50, 53, 50]⟩, 4), (⟨#[105, 115, 111, 45, 56, 56, 53, 57, 45, 49]⟩, 4), (⟨#[108, 97, 116, 105, 110, 49]⟩, 4), (⟨#[97, 115, 99, 105, 105]⟩, 4), (⟨#[117, 115, 45, 97, 115, 99, 105, 105]⟩, 4), (⟨#[108, 49]⟩, 4), (⟨#[120, 45, 117, 115, 101, 114, 45, 100, 101, 102, 105, 110, 101, 100]⟩, 5), (⟨#[105, 115, 111, 45, 50, 48, 50, 50, 45, 106, 112]⟩, 6), (⟨#[99, 115, 105, 115, 111, 50, 48, 50, 50, 106, 112]⟩, 6), (⟨#[114, 101, 112, 108, 97, 99, 101, 109, 101, 110, 116]⟩, 7), (⟨#[104, 122, 45, 103, 98, 45, 50, 51, 49, 50]⟩, 7), (⟨#[105, 115, 111, 45, 50, 48, 50, 50, 45, 107, 114]⟩, 7), (⟨#[105, 115, 111, 45, 50, 48, 50, 50, 45, 99, 110]⟩, 7)]
set_option maxHeartbeats 1000000 in
set_option maxRecDepth 100000 in
theorem Labels_any (w : World) : Calls Tryd.prog 40 #[] w fun e w' => e = .returned (.slice (some ⟨w.heap.size, 0, none⟩) 22 22) ∧ w' = w.alloc (.cells (tabCells labs) 56) := by
  go_enter Tryd.func40, Tryd.ntmps40
  go_wp2
  go_ret
  exact ⟨rfl, rfl⟩

theorem tr_size (s : ByteArray) (hs : s.size ≤ 3000) : (strOfNums (trI (bl s))).size ≤ 3000 := by
  rw [strOfNums_size]; have := tr_len (bl s); rw [bl_len] at this; omega
/-- The number that a text's label has, or 0. -/
def findI (s : ByteArray) : Int := lk labs (strOfNums (fdI (trI (bl s))))

theorem fd_size (s : ByteArray) (hs : s.size ≤ 3000) : (strOfNums (fdI (trI (bl s)))).size ≤ 3000 := by
  rw [strOfNums_size, fd_len]; have := tr_len (bl s); rw [bl_len] at this; omega

theorem ftrOf_any (s : ByteArray) (w : World) (hs : s.size ≤ 3000) :
    Calls Tryd.prog 32 #[.string (strOfNums (trI (bl s)))] w fun e w' => e = .returned (.string (strOfNums (fdI (trI (bl s))))) ∧ Below w.heap.size w w' := by
  have := foldOf_any (strOfNums (trI (bl s))) w (tr_size s hs)
  rw [bl_str _ (tr_byt (bl_byt s))] at this
  exact this

set_option maxHeartbeats 1000000 in
set_option maxRecDepth 100000 in
theorem findOf_any (s : ByteArray) (w : World) (hs : s.size ≤ 3000) :
    Calls Tryd.prog 31 #[.string s] w fun e w' => e = .returned (.int .i64 (findI s)) ∧ Below w.heap.size w w' := by
  have HT := hide (fun w => trimOf_any s w hs)
  have HF := hide (fun w => ftrOf_any s w hs)
  unfold findI
  generalize strOfNums (fdI (trI (bl s))) = n at *
  generalize strOfNums (trI (bl s)) = t at *
  go_enter Tryd.func31, Tryd.ntmps31
  go_wp2_with fail
  refine (unhide HT _).mono ?_
  rintro e w1 ⟨rfl, hw⟩
  replace hw := hw.symm
  subst hw
  go_wp2_with fail
  refine (unhide HF _).mono ?_
  rintro e w2 ⟨rfl, hb2⟩
  go_wp2_with fail
  refine (Labels_any _).mono ?_
  rintro e w3 ⟨rfl, hw⟩
  have hT : Tab w3 w2.heap.size labs := by rw [hw]; exact Tab.new _ _ _
  have hb3 : Below w2.heap.size w2 w3 := by rw [hw]; exact balloc _ _
  clear hw HT HF
  have HT := hide hT
  have HB := hide (bstep hb2 hb3)
  clear hT hb2 hb3
  obtain ⟨l, Hl⟩ : ∃ l, Hid (labs = l) := ⟨labs, rfl⟩
  have hlen : l.length = 22 := by rw [← unhide Hl]; rfl
  rw [unhide Hl] at HT
  go_wp2_with fail
  go_loop [4] (fun i => ∃ k : Nat, k ≤ l.length ∧ i = .int .i64 k ∧ Hid (lk labs n = lk (l.drop k) n)) (fun i => l.length - (intOf i).toNat)
  case atStart => exact ⟨0, by omega, rfl, by rw [unhide Hl]; exact rfl⟩
  case round =>
    obtain ⟨k, hk, rfl, HL⟩ := hrel
    by_cases hlt : k < l.length
    · obtain ⟨c1, c2⟩ := unhide HT k hlt
      have HD : Hid (lk (l.drop k) n = if (l[k].1 == n) then l[k].2 else lk (l.drop (k + 1)) n) := by
        show _ = _
        rw [List.drop_eq_getElem_cons hlt]; rfl
      obtain ⟨la, HA⟩ : ∃ la, Hid (l[k].1 = la) := ⟨l[k].1, rfl⟩
      obtain ⟨lb, HB'⟩ : ∃ lb, Hid (l[k].2 = lb) := ⟨l[k].2, rfl⟩
      rw [unhide HA] at c1 HD
      rw [unhide HB'] at c2 HD
      have hk22 : k < 22 := by omega
      have HQ0 := hide (beq_toListBytes la n)
      obtain ⟨q, HQ⟩ : ∃ q, Hid ((la == n) = q) := ⟨(la == n), rfl⟩
      have hq : (la.toList == n.toList) = q := by rw [← unhide HQ0]; exact unhide HQ
      rw [unhide HQ] at HD
      cases q
      · have HL' : Hid (lk labs n = lk (l.drop (k + 1)) n) := by
          show _ = _
          rw [unhide HL, unhide HD]; simp
        clear HD
        go_wp2_with fail
        go_round
        case rel => exact ⟨k + 1, by omega, by go_num, HL'⟩
        case measure => simp [intOf]; omega
      · have HL' : Hid (lk labs n = lb) := by
          show _ = _
          rw [unhide HL, unhide HD]; simp
        clear HD
        go_wp2_with fail
        go_ret
        exact ⟨by rw [unhide HL']; rfl, unhide HB⟩
    · have ek : k = l.length := by omega
      have HL' : Hid (lk labs n = 0) := by
        show _ = _
        rw [unhide HL, ek, List.drop_length]; rfl
      have hk22 : ¬ k < 22 := by omega
      go_wp2_with fail
      go_ret
      exact ⟨by rw [unhide HL']; rfl, unhide HB⟩

end Go.Proofs.YthhjfedegbldfaeDoor
