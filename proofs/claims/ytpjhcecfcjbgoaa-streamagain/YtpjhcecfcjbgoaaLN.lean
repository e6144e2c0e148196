/- The contracts of label.told, first, Name and of stream.kind: which numbers are encodings; nothing that was there is written. -/
import Derived.Test.YtpjhcecfcjbgoaaBase
import Derived.Laws.IdiomStrings
import Derived.ProofKit
import Derived.WalkKit
import Derived.WalkSmall
namespace Go.Proofs.Ytpjhcecfcjbgoaa
open Go.RowKit
set_option linter.unusedVariables false

/-- The first of a list whose number is m: its name, or nothing. -/
def nm : List (ByteArray × Int) → Int → ByteArray
  | [], _ => ⟨#[]⟩
  | x :: t, m => if x.2 == m then x.1 else nm t m
/-- The cells of a table. -/
def tabCells (l : List (ByteArray × Int)) : Array Value := (l.flatMap fun x => [.string x.1, .int .i64 x.2]).toArray
/-- The table l lies at block b. -/
def Tab (w : World) (b : Nat) (l : List (ByteArray × Int)) : Prop :=
  ∀ i (h : i < l.length), w.cell? ⟨b, i * 2, none⟩ = some (.string l[i].1) ∧ w.cell? ⟨b, i * 2 + 1, none⟩ = some (.int .i64 l[i].2)

theorem tabCells_at : ∀ (l : List (ByteArray × Int)) (i : Nat) (h : i < l.length), (l.flatMap fun x => [Value.string x.1, Value.int .i64 x.2])[i * 2]? = some (.string l[i].1) ∧ (l.flatMap fun x => [Value.string x.1, Value.int .i64 x.2])[i * 2 + 1]? = some (.int .i64 l[i].2) := by
  intro l
  induction l with
  | nil => intro i h; simp at h
  | cons x t ih =>
    intro i h
    cases i with
    | zero => simp
    | succ i =>
      have := ih i (by simpa using h)
      have e1 : (i + 1) * 2 = i * 2 + 2 := by omega
      rw [e1]
      simpa [List.flatMap_cons] using this

theorem Tab.new (w : World) (l : List (ByteArray × Int)) (t : TypeId) : Tab (w.alloc (.cells (tabCells l) t)) w.heap.size l := by
  intro i h
  have := tabCells_at l i h
  rw [World.cell?_alloc_at _ _ _ _ rfl, World.cell?_alloc_at _ _ _ _ rfl]
  unfold tabCells
  simpa using this
/-- The label that is told of each encoding. -/
def tolds : List (ByteArray × Int) := [(⟨#[117, 116, 102, 45, 56]⟩, 1), (⟨#[117, 116, 102, 45, 49, 54, 108, 101]⟩, 2), (⟨#[117, 116, 102, 45, 49, 54, 98, 101]⟩, 3), (⟨#[119, 105, 110, 100, 111, 119, 115, 45, 49, 50, 53, 50]⟩, 4), (⟨#[120, 45, 117, 115, 101, 114, 45, 100, 101, 102, 105, 110, 101, 100]⟩, 5), (⟨#[105, 115, 111, 45, 50, 48, 50, 50, 45, 106, 112]⟩, 6), (⟨#[114, 101, 112, 108, 97, 99, 101, 109, 101, 110, 116]⟩, 7)]

set_option maxHeartbeats 1000000 in
set_option maxRecDepth 100000 in
theorem told_any (w : World) : Calls Try.prog 33 #[] w fun e w' => e = .returned (.slice (some ⟨w.heap.size, 0, none⟩) 7 7) ∧ w' = w.alloc (.cells (tabCells tolds) 60) := by
  go_enter Try.func33, Try.ntmps33
  go_wp2
  go_ret
  exact ⟨rfl, rfl⟩
set_option maxHeartbeats 400000 in
set_option maxRecDepth 100000 in
theorem isNumber_any (a : ByteArray) (m n : Int) (B : Nat) (w : World) (hc : w.cell? ⟨B, 0, none⟩ = some (.int .i64 n)) :
    Calls Try.prog 34 #[.agg #[.string a, .int .i64 m], .pointer (some ⟨B, 0, none⟩)] w fun e w' => e = .returned (.bool (m == n)) ∧ Below w.heap.size w w' := by
  have hl := World.block_lt_of_cell? w _ hc
  simp only at hl
  go_enter Try.func34, Try.ntmps34
  go_wp2
  go_ret
  exact ⟨rfl, balloc _ _⟩

set_option maxHeartbeats 1000000 in
set_option maxRecDepth 100000 in
theorem first_number (l : List (ByteArray × Int)) (n : Int) (b B cap : Nat) (w : World) (hl : l.length ≤ 100) (ht : Tab w b l) (hbw : b < w.heap.size) (hc : w.cell? ⟨B, 0, none⟩ = some (.int .i64 n)) :
    Calls Try.prog 32 #[.slice (some ⟨b, 0, none⟩) l.length cap, .func (Fn.func 34) #[] #[.pointer (some ⟨B, 0, none⟩)]] w fun e w' =>
      ∃ x, e = .returned (.agg #[.string (nm l n), .int .i64 x]) ∧ Below w.heap.size w w' := by
  have hB := World.block_lt_of_cell? w _ hc
  simp only at hB
  have HT := hide ht
  clear ht
  go_enter Try.func32, Try.ntmps32
  go_wp2_with fail
  go_loopw [9] (fun i wr => ∃ k : Nat, k ≤ l.length ∧ i = .int .i64 k ∧ Below (w.heap.size + 1) (w.alloc (.cells #[.string ⟨#[]⟩, .int .i64 0] 60)) wr ∧ Hid (nm l n = nm (l.drop k) n)) (fun i _ => l.length - (intOf i).toNat)
  case atStart => exact ⟨0, by omega, rfl, Below.refl _ _, rfl⟩
  case round =>
    obtain ⟨k, hk, rfl, hbr, HL⟩ := hrel
    have hsz := hbr.size
    simp at hsz
    have r0 : wr.cell? ⟨w.heap.size, 0, none⟩ = some (.string ⟨#[]⟩) := by rw [hbr.cell (p := ⟨w.heap.size, 0, none⟩) (by simp)]; simp
    have r1 : wr.cell? ⟨w.heap.size, 1, none⟩ = some (.int .i64 0) := by rw [hbr.cell (p := ⟨w.heap.size, 1, none⟩) (by simp)]; simp
    have q0 : wr.frozen? ⟨w.heap.size, 0, none⟩ = false := by rw [hbr.frozen (p := ⟨w.heap.size, 0, none⟩) (by simp)]; simp
    have q1 : wr.frozen? ⟨w.heap.size, 1, none⟩ = false := by rw [hbr.frozen (p := ⟨w.heap.size, 1, none⟩) (by simp)]; simp
    by_cases hlt : k < l.length
    · have ht := (unhide HT) k hlt
      have c1 : wr.cell? ⟨b, k * 2, none⟩ = some (.string l[k].1) := ((hbr.cell (p := ⟨b, k * 2, none⟩) (by simp; omega)).trans (World.cell?_alloc_lt _ _ _ hbw)).trans ht.1
      have c2 : wr.cell? ⟨b, k * 2 + 1, none⟩ = some (.int .i64 l[k].2) := ((hbr.cell (p := ⟨b, k * 2 + 1, none⟩) (by simp; omega)).trans (World.cell?_alloc_lt _ _ _ hbw)).trans ht.2
      have c3 : wr.cell? ⟨B, 0, none⟩ = some (.int .i64 n) := ((hbr.cell (p := ⟨B, 0, none⟩) (by simp; omega)).trans (World.cell?_alloc_lt _ _ _ hB)).trans hc
      have HD : Hid (nm (l.drop k) n = if (l[k].2 == n) then l[k].1 else nm (l.drop (k + 1)) n) := by
        show _ = _
        rw [List.drop_eq_getElem_cons hlt]; rfl
      obtain ⟨la, HA⟩ : ∃ la, Hid (l[k].1 = la) := ⟨l[k].1, rfl⟩
      obtain ⟨lb, HB⟩ : ∃ lb, Hid (l[k].2 = lb) := ⟨l[k].2, rfl⟩
      rw [unhide HA] at c1 HD
      rw [unhide HB] at c2 HD
      clear ht
      go_wp2_with fail
      refine (isNumber_any _ _ _ B _ (by rw [World.cell?_alloc_lt _ _ _ (by simp; omega)]; exact c3)).mono ?_
      rintro e w2 ⟨rfl, hb2⟩
      have hs2 := hb2.size
      simp at hs2
      have d0 : w2.cell? ⟨wr.heap.size, 0, none⟩ = some (.string la) := by rw [hb2.cell (p := ⟨wr.heap.size, 0, none⟩) (by simp)]; simp
      have d1 : w2.cell? ⟨wr.heap.size, 1, none⟩ = some (.int .i64 lb) := by rw [hb2.cell (p := ⟨wr.heap.size, 1, none⟩) (by simp)]; simp
      have s0 : w2.cell? ⟨w.heap.size, 0, none⟩ = some (.string ⟨#[]⟩) := by rw [hb2.cell (p := ⟨w.heap.size, 0, none⟩) (by simp; omega), World.cell?_alloc_lt _ _ _ (by simp; omega)]; exact r0
      have s1 : w2.cell? ⟨w.heap.size, 1, none⟩ = some (.int .i64 0) := by rw [hb2.cell (p := ⟨w.heap.size, 1, none⟩) (by simp; omega), World.cell?_alloc_lt _ _ _ (by simp; omega)]; exact r1
      have t0 : w2.frozen? ⟨w.heap.size, 0, none⟩ = false := by exact ((hb2.frozen (p := ⟨w.heap.size, 0, none⟩) (by simp; omega)).trans ((balloc wr _).frozen (p := ⟨w.heap.size, 0, none⟩) (by simp; omega))).trans q0
      have t1 : w2.frozen? ⟨w.heap.size, 1, none⟩ = false := by exact ((hb2.frozen (p := ⟨w.heap.size, 1, none⟩) (by simp; omega)).trans ((balloc wr _).frozen (p := ⟨w.heap.size, 1, none⟩) (by simp; omega))).trans q1
      have HR : Below (w.heap.size + 1) (w.alloc (.cells #[.string ⟨#[]⟩, .int .i64 0] 60)) w2 := (hbr.alloc (by omega) _).trans (hb2.mono (by simp; omega))
      obtain ⟨q, HQ⟩ : ∃ q, Hid ((lb == n) = q) := ⟨_, rfl⟩
      rw [unhide HQ] at HD ⊢
      clear c1 c2 c3 r0 r1 q0 q1 hbr hb2
      cases q
      · have HL' : Hid (nm l n = nm (l.drop (k + 1)) n) := by
          show _ = _
          rw [unhide HL, unhide HD]; simp
        go_wp2_with fail
        go_roundw
        case rel => exact ⟨k + 1, by omega, by go_num, HR, HL'⟩
        case measure => simp [intOf]; omega
      · have HL' : Hid (nm l n = la) := by
          show _ = _
          rw [unhide HL, unhide HD]; simp
        have hzz : w.heap.size < w2.heap.size := by omega
        go_wp2_with fail
        refine bodyPost_ret (v := .agg #[.string la, .int .i64 lb]) (by simp [results, Try.results32, go_sem, s0, s1]) rfl ⟨lb, by rw [unhide HL'], ?_⟩
        exact ((((Below.refl w.heap.size w).alloc (Nat.le_refl _) _).trans (HR.mono (by omega))).setCell (Nat.le_refl _) _).setCell (Nat.le_refl _) _
    · have ek : k = l.length := by omega
      have HL' : Hid (nm l n = ⟨#[]⟩) := by
        show _ = _
        rw [unhide HL, ek, List.drop_length]; rfl
      have hzz : w.heap.size < wr.heap.size := by omega
      go_wp2_with fail
      refine bodyPost_ret (v := .agg #[.string ⟨#[]⟩, .int .i64 0]) (by simp [results, Try.results32, go_sem, r0, r1]) rfl ⟨0, by rw [unhide HL'], ?_⟩
      exact ((((Below.refl w.heap.size w).alloc (Nat.le_refl _) _).trans (hbr.mono (by omega))).setCell (Nat.le_refl _) _).setCell (Nat.le_refl _) _

theorem field_1 (x : ByteArray) (r : Int) (w : World) : Sem.run Try.prog (Instr.field 60 (.agg #[.string x, .int .i64 r]) 1) w = .ok (.int .i64 r) w := by
  kernel_rfl
theorem field_0 (x : ByteArray) (r : Int) (w : World) : Sem.run Try.prog (Instr.field 60 (.agg #[.string x, .int .i64 r]) 0) w = .ok (.string x) w := by
  kernel_rfl

/-- The name that is told of an encoding. -/
def nameI (n : Int) : ByteArray := nm tolds n
theorem nameI_yes (n : Int) (h : 1 ≤ n ∧ n ≤ 7) : (nameI n).toList.isEmpty = false := by
  rcases (show n = 1 ∨ n = 2 ∨ n = 3 ∨ n = 4 ∨ n = 5 ∨ n = 6 ∨ n = 7 from by omega) with rfl | rfl | rfl | rfl | rfl | rfl | rfl <;> (rw [ByteArray.toList_eq]; decide +kernel)
theorem nameI_no (n : Int) (h : ¬ (1 ≤ n ∧ n ≤ 7)) : nameI n = ⟨#[]⟩ := by
  have h1 : ((1 : Int) == n) = false := by simp; omega
  have h2 : ((2 : Int) == n) = false := by simp; omega
  have h3 : ((3 : Int) == n) = false := by simp; omega
  have h4 : ((4 : Int) == n) = false := by simp; omega
  have h5 : ((5 : Int) == n) = false := by simp; omega
  have h6 : ((6 : Int) == n) = false := by simp; omega
  have h7 : ((7 : Int) == n) = false := by simp; omega
  unfold nameI tolds
  simp only [nm, h1, h2, h3, h4, h5, h6, h7]
  rfl

set_option maxHeartbeats 1000000 in
set_option maxRecDepth 100000 in
theorem Name_yes (n : Int) (w : World) (h : 1 ≤ n ∧ n ≤ 7) :
    Calls Try.prog 19 #[.int .i64 n] w fun e w' => e = .returned (.tuple #[.string (nameI n), .int .i64 0]) ∧ Below w.heap.size w w' := by
  have he := nameI_yes n h
  have HI : Hid (nameI n = nm tolds n) := rfl
  go_enter Try.func19, Try.ntmps19
  go_wp2_with fail
  refine (told_any _).mono ?_
  rintro e w3 ⟨rfl, hw⟩
  replace hw := hw.symm
  subst hw
  have hT : Tab ((w.alloc (.cells #[.int .i64 n] 3)).alloc (.cells (tabCells tolds) 60)) (w.heap.size + 1) tolds := by
    have e : (w.alloc (.cells #[.int .i64 n] 3)).heap.size = w.heap.size + 1 := by simp
    rw [← e]; exact Tab.new _ _ _
  have hC : ((w.alloc (.cells #[.int .i64 n] 3)).alloc (.cells (tabCells tolds) 60)).cell? ⟨w.heap.size, 0, none⟩ = some (.int .i64 n) := by
    rw [World.cell?_alloc_lt _ _ _ (by simp)]; simp
  have HP := hide (first_number tolds n (w.heap.size + 1) w.heap.size 7 _ (by decide) hT (by simp) hC)
  have HB := hide (bstep (balloc w (.cells #[.int .i64 n] 3)) (balloc _ (.cells (tabCells tolds) 60)))
  rw [show tolds.length = 7 from rfl, ← unhide HI] at HP
  generalize tabCells tolds = tc at *
  clear hT hC HI
  go_wp2_with fail
  refine (unhide HP).mono ?_
  rintro e w4 ⟨x, rfl, hb4⟩
  have hf0 := @field_0
  have hf1 := @field_1
  go_wp2_with fail
  go_ret2
  exact ⟨rfl, bstep (unhide HB) hb4⟩

set_option maxHeartbeats 1000000 in
set_option maxRecDepth 100000 in
theorem Name_no (n : Int) (w : World) (h : ¬ (1 ≤ n ∧ n ≤ 7)) :
    Calls Try.prog 19 #[.int .i64 n] w fun e w' => e = .returned (.tuple #[.string ⟨#[]⟩, .int .i64 6]) ∧ Below w.heap.size w w' := by
  have HI : Hid (nm tolds n = ⟨#[]⟩) := nameI_no n h
  go_enter Try.func19, Try.ntmps19
  go_wp2_with fail
  refine (told_any _).mono ?_
  rintro e w3 ⟨rfl, hw⟩
  replace hw := hw.symm
  subst hw
  have hT : Tab ((w.alloc (.cells #[.int .i64 n] 3)).alloc (.cells (tabCells tolds) 60)) (w.heap.size + 1) tolds := by
    have e : (w.alloc (.cells #[.int .i64 n] 3)).heap.size = w.heap.size + 1 := by simp
    rw [← e]; exact Tab.new _ _ _
  have hC : ((w.alloc (.cells #[.int .i64 n] 3)).alloc (.cells (tabCells tolds) 60)).cell? ⟨w.heap.size, 0, none⟩ = some (.int .i64 n) := by
    rw [World.cell?_alloc_lt _ _ _ (by simp)]; simp
  have HP := hide (first_number tolds n (w.heap.size + 1) w.heap.size 7 _ (by decide) hT (by simp) hC)
  have HB := hide (bstep (balloc w (.cells #[.int .i64 n] 3)) (balloc _ (.cells (tabCells tolds) 60)))
  rw [show tolds.length = 7 from rfl, unhide HI] at HP
  generalize tabCells tolds = tc at *
  clear hT hC HI
  go_wp2_with fail
  refine (unhide HP).mono ?_
  rintro e w4 ⟨x, rfl, hb4⟩
  have hf0 := @field_0
  have hf1 := @field_1
  go_wp2_with fail
  go_ret2
  exact ⟨rfl, bstep (unhide HB) hb4⟩
set_option maxHeartbeats 400000 in
set_option maxRecDepth 100000 in
theorem kind_yes (n : Int) (w : World) (h : 1 ≤ n ∧ n ≤ 7) : Calls Try.prog 9 #[.int .i64 n] w fun e w' => e = .returned (.int .i64 0) ∧ Below w.heap.size w w' := by
  go_enter Try.func9, Try.ntmps9
  go_wp2_with fail
  refine (Name_yes n _ h).mono ?_
  rintro e w1 ⟨rfl, hb⟩
  have HB := hide hb
  clear hb
  go_wp2_with fail
  go_ret
  exact ⟨rfl, unhide HB⟩
set_option maxHeartbeats 400000 in
set_option maxRecDepth 100000 in
theorem kind_no (n : Int) (w : World) (h : ¬ (1 ≤ n ∧ n ≤ 7)) : Calls Try.prog 9 #[.int .i64 n] w fun e w' => e = .returned (.int .i64 6) ∧ Below w.heap.size w w' := by
  go_enter Try.func9, Try.ntmps9
  go_wp2_with fail
  refine (Name_no n _ h).mono ?_
  rintro e w1 ⟨rfl, hb⟩
  have HB := hide hb
  clear hb
  go_wp2_with fail
  go_ret
  exact ⟨rfl, unhide HB⟩
end Go.Proofs.Ytpjhcecfcjbgoaa
