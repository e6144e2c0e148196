/- Laws that the statements of this seat lean on, part 4 (LN SY LC DA KG DB DC DD DE DF DG MathG6 Law): each a contract of a function, or a plain fact; conditions stand at each. -/
import Derived.Deep.CutRange
import Derived.Deep.RegionHeld3
import Derived.Deep.RegionLaw
import Derived.Laws.IdiomStrings
import Derived.Maps.AppendAt
import Derived.ProofKit
import Derived.Shelf.Strconv.Clone
import Derived.WalkKit
import Derived.WalkSmall
import Derived.Test.YtaiinjfnkmidbaaGreatDoorQD3
namespace Go.Proofs.YtaiinjfnkmidbaaGreatDoor
open Go.RowKit
set_option linter.unusedVariables false

/-- The first of a list whose number is m: its name, or nothing. -/
def nm : List (ByteArray × Int) → Int → ByteArray
  | [], _ => ⟨#[]⟩
  | x :: t, m => if x.2 == m then x.1 else nm t m
/-- The label that is told of each encoding. -/
def tolds : List (ByteArray × Int) := [(⟨#[117, 116, 102, 45, 56]⟩, 1), (⟨#[117, 116, 102, 45, 49, 54, 108, 101]⟩, 2), (⟨#[117, 116, 102, 45, 49, 54, 98, 101]⟩, 3), (⟨#[119, 105, 110, 100, 111, 119, 115, 45, 49, 50, 53, 50]⟩, 4), (⟨#[120, 45, 117, 115, 101, 114, 45, 100, 101, 102, 105, 110, 101, 100]⟩, 5), (⟨#[105, 115, 111, 45, 50, 48, 50, 50, 45, 106, 112]⟩, 6), (⟨#[114, 101, 112, 108, 97, 99, 101, 109, 101, 110, 116]⟩, 7)]

set_option maxHeartbeats 1000000 in
set_option maxRecDepth 100000 in
theorem told_any (w : World) : Calls Tryz.prog 128 #[] w fun e w' => e = .returned (.slice (some ⟨w.heap.size, 0, none⟩) 7 7) ∧ w' = w.alloc (.cells (tabCells tolds) 103) := by
  go_enter Tryz.func128, Tryz.ntmps128
  go_wp2
  go_ret
  exact ⟨rfl, rfl⟩
set_option maxHeartbeats 400000 in
set_option maxRecDepth 100000 in
theorem isNumber_any (a : ByteArray) (m n : Int) (B : Nat) (w : World) (hc : w.cell? ⟨B, 0, none⟩ = some (.int .i64 n)) :
    Calls Tryz.prog 129 #[.agg #[.string a, .int .i64 m], .pointer (some ⟨B, 0, none⟩)] w fun e w' => e = .returned (.bool (m == n)) ∧ Below w.heap.size w w' := by
  have hl := World.block_lt_of_cell? w _ hc
  simp only at hl
  go_enter Tryz.func129, Tryz.ntmps129
  go_wp2
  go_ret
  exact ⟨rfl, balloc _ _⟩

set_option maxHeartbeats 1000000 in
set_option maxRecDepth 100000 in
theorem first_number (l : List (ByteArray × Int)) (n : Int) (b B cap : Nat) (w : World) (hl : l.length ≤ 100) (ht : Tab w b l) (hbw : b < w.heap.size) (hc : w.cell? ⟨B, 0, none⟩ = some (.int .i64 n)) :
    Calls Tryz.prog 74 #[.slice (some ⟨b, 0, none⟩) l.length cap, .func (Fn.func 129) #[] #[.pointer (some ⟨B, 0, none⟩)]] w fun e w' =>
      ∃ x, e = .returned (.agg #[.string (nm l n), .int .i64 x]) ∧ Below w.heap.size w w' := by
  have hB := World.block_lt_of_cell? w _ hc
  simp only at hB
  have HT := hide ht
  clear ht
  go_enter Tryz.func74, Tryz.ntmps74
  go_wp2_with fail
  go_loopw [9] (fun i wr => ∃ k : Nat, k ≤ l.length ∧ i = .int .i64 k ∧ Below (w.heap.size + 1) (w.alloc (.cells #[.string ⟨#[]⟩, .int .i64 0] 103)) wr ∧ Hid (nm l n = nm (l.drop k) n)) (fun i _ => l.length - (intOf i).toNat)
  case atStart => exact ⟨0, by omega, rfl, Below.refl _ _, rfl⟩
  case round =>
    obtain ⟨k, hk, rfl, hbr, HL⟩ := hrel
    have hsz := hbr.size
    simp at hsz
    have r0 : wr.cell? ⟨w.heap.size, 0, none⟩ = some (.string ⟨#[]⟩) := by rw [hbr.cell (p := ⟨w.heap.size, 0, none⟩) (by simp)]; simp
    have r1 : wr.cell? ⟨w.heap.size, 1, none⟩ = some (.int .i64 0) := by rw [hbr.cell (p := ⟨w.heap.size, 1, none⟩) (by simp)]; simp
    have q0 : wr.frozen? ⟨w.heap.size, 0, none⟩ = false := by rw [hbr.frozen (p := ⟨w.heap.size, 0, none⟩) (by simp)]; simp
    have q1 : wr.frozen? ⟨w.heap.size, 1, none⟩ = false := by rw [hbr.frozen (p := ⟨w.heap.size, 1, none⟩) (by simp)]; simp
    by_cases hlt : k < l.length
    · have ht := (unhide HT) k hlt
      have c1 : wr.cell? ⟨b, k * 2, none⟩ = some (.string l[k].1) := ((hbr.cell (p := ⟨b, k * 2, none⟩) (by simp; omega)).trans (World.cell?_alloc_lt _ _ _ hbw)).trans ht.1
      have c2 : wr.cell? ⟨b, k * 2 + 1, none⟩ = some (.int .i64 l[k].2) := ((hbr.cell (p := ⟨b, k * 2 + 1, none⟩) (by simp; omega)).trans (World.cell?_alloc_lt _ _ _ hbw)).trans ht.2
      have c3 : wr.cell? ⟨B, 0, none⟩ = some (.int .i64 n) := ((hbr.cell (p := ⟨B, 0, none⟩) (by simp; omega)).trans (World.cell?_alloc_lt _ _ _ hB)).trans hc
      have HD : Hid (nm (l.drop k) n = if (l[k].2 == n) then l[k].1 else nm (l.drop (k + 1)) n) := by
        show _ = _
        rw [List.drop_eq_getElem_cons hlt]; rfl
      obtain ⟨la, HA⟩ : ∃ la, Hid (l[k].1 = la) := ⟨l[k].1, rfl⟩
      obtain ⟨lb, HB⟩ : ∃ lb, Hid (l[k].2 = lb) := ⟨l[k].2, rfl⟩
      rw [unhide HA] at c1 HD
      rw [unhide HB] at c2 HD
      clear ht
      go_wp2_with fail
      refine (isNumber_any _ _ _ B _ (by rw [World.cell?_alloc_lt _ _ _ (by simp; omega)]; exact c3)).mono ?_
      rintro e w2 ⟨rfl, hb2⟩
      have hs2 := hb2.size
      simp at hs2
      have d0 : w2.cell? ⟨wr.heap.size, 0, none⟩ = some (.string la) := by rw [hb2.cell (p := ⟨wr.heap.size, 0, none⟩) (by simp)]; simp
      have d1 : w2.cell? ⟨wr.heap.size, 1, none⟩ = some (.int .i64 lb) := by rw [hb2.cell (p := ⟨wr.heap.size, 1, none⟩) (by simp)]; simp
      have s0 : w2.cell? ⟨w.heap.size, 0, none⟩ = some (.string ⟨#[]⟩) := by rw [hb2.cell (p := ⟨w.heap.size, 0, none⟩) (by simp; omega), World.cell?_alloc_lt _ _ _ (by simp; omega)]; exact r0
      have s1 : w2.cell? ⟨w.heap.size, 1, none⟩ = some (.int .i64 0) := by rw [hb2.cell (p := ⟨w.heap.size, 1, none⟩) (by simp; omega), World.cell?_alloc_lt _ _ _ (by simp; omega)]; exact r1
      have t0 : w2.frozen? ⟨w.heap.size, 0, none⟩ = false := by exact ((hb2.frozen (p := ⟨w.heap.size, 0, none⟩) (by simp; omega)).trans ((balloc wr _).frozen (p := ⟨w.heap.size, 0, none⟩) (by simp; omega))).trans q0
      have t1 : w2.frozen? ⟨w.heap.size, 1, none⟩ = false := by exact ((hb2.frozen (p := ⟨w.heap.size, 1, none⟩) (by simp; omega)).trans ((balloc wr _).frozen (p := ⟨w.heap.size, 1, none⟩) (by simp; omega))).trans q1
      have HR : Below (w.heap.size + 1) (w.alloc (.cells #[.string ⟨#[]⟩, .int .i64 0] 103)) w2 := (hbr.alloc (by omega) _).trans (hb2.mono (by simp; omega))
      obtain ⟨q, HQ⟩ : ∃ q, Hid ((lb == n) = q) := ⟨_, rfl⟩
      rw [unhide HQ] at HD ⊢
      clear c1 c2 c3 r0 r1 q0 q1 hbr hb2
      cases q
      · have HL' : Hid (nm l n = nm (l.drop (k + 1)) n) := by
          show _ = _
          rw [unhide HL, unhide HD]; simp
        go_wp2_with fail
        go_roundw
        case rel => exact ⟨k + 1, by omega, by go_num, HR, HL'⟩
        case measure => simp [intOf]; omega
      · have HL' : Hid (nm l n = la) := by
          show _ = _
          rw [unhide HL, unhide HD]; simp
        have hzz : w.heap.size < w2.heap.size := by omega
        go_wp2_with fail
        refine bodyPost_ret (v := .agg #[.string la, .int .i64 lb]) (by simp [results, Tryz.results74, go_sem, s0, s1]) rfl ⟨lb, by rw [unhide HL'], ?_⟩
        exact ((((Below.refl w.heap.size w).alloc (Nat.le_refl _) _).trans (HR.mono (by omega))).setCell (Nat.le_refl _) _).setCell (Nat.le_refl _) _
    · have ek : k = l.length := by omega
      have HL' : Hid (nm l n = ⟨#[]⟩) := by
        show _ = _
        rw [unhide HL, ek, List.drop_length]; rfl
      have hzz : w.heap.size < wr.heap.size := by omega
      go_wp2_with fail
      refine bodyPost_ret (v := .agg #[.string ⟨#[]⟩, .int .i64 0]) (by simp [results, Tryz.results74, go_sem, r0, r1]) rfl ⟨0, by rw [unhide HL'], ?_⟩
      exact ((((Below.refl w.heap.size w).alloc (Nat.le_refl _) _).trans (hbr.mono (by omega))).setCell (Nat.le_refl _) _).setCell (Nat.le_refl _) _

theorem field_1 (x : ByteArray) (r : Int) (w : World) : Sem.run Tryz.prog (Instr.field 103 (.agg #[.string x, .int .i64 r]) 1) w = .ok (.int .i64 r) w := by
  kernel_rfl
theorem field_0 (x : ByteArray) (r : Int) (w : World) : Sem.run Tryz.prog (Instr.field 103 (.agg #[.string x, .int .i64 r]) 0) w = .ok (.string x) w := by
  kernel_rfl

/-- The name that is told of an encoding. -/
def nameI (n : Int) : ByteArray := nm tolds n
theorem nameI_yes (n : Int) (h : 1 ≤ n ∧ n ≤ 7) : (nameI n).toList.isEmpty = false := by
  rcases (show n = 1 ∨ n = 2 ∨ n = 3 ∨ n = 4 ∨ n = 5 ∨ n = 6 ∨ n = 7 from by omega) with rfl | rfl | rfl | rfl | rfl | rfl | rfl <;> (rw [ByteArray.toList_eq]; decide +kernel)
theorem nameI_no (n : Int) (h : ¬ (1 ≤ n ∧ n ≤ 7)) : nameI n = ⟨#[]⟩ := by
  have h1 : ((1 : Int) == n) = false := by simp; omega
  have h2 : ((2 : Int) == n) = false := by simp; omega
  have h3 : ((3 : Int) == n) = false := by simp; omega
  have h4 : ((4 : Int) == n) = false := by simp; omega
  have h5 : ((5 : Int) == n) = false := by simp; omega
  have h6 : ((6 : Int) == n) = false := by simp; omega
  have h7 : ((7 : Int) == n) = false := by simp; omega
  unfold nameI tolds
  simp only [nm, h1, h2, h3, h4, h5, h6, h7]
  rfl

set_option maxHeartbeats 1000000 in
set_option maxRecDepth 100000 in
theorem Name_yes (n : Int) (w : World) (h : 1 ≤ n ∧ n ≤ 7) :
    Calls Tryz.prog 65 #[.int .i64 n] w fun e w' => e = .returned (.tuple #[.string (nameI n), .int .i64 0]) ∧ Below w.heap.size w w' := by
  have he := nameI_yes n h
  have HI : Hid (nameI n = nm tolds n) := rfl
  go_enter Tryz.func65, Tryz.ntmps65
  go_wp2_with fail
  refine (told_any _).mono ?_
  rintro e w3 ⟨rfl, hw⟩
  replace hw := hw.symm
  subst hw
  have hT : Tab ((w.alloc (.cells #[.int .i64 n] 3)).alloc (.cells (tabCells tolds) 103)) (w.heap.size + 1) tolds := by
    have e : (w.alloc (.cells #[.int .i64 n] 3)).heap.size = w.heap.size + 1 := by simp
    rw [← e]; exact Tab.new _ _ _
  have hC : ((w.alloc (.cells #[.int .i64 n] 3)).alloc (.cells (tabCells tolds) 103)).cell? ⟨w.heap.size, 0, none⟩ = some (.int .i64 n) := by
    rw [World.cell?_alloc_lt _ _ _ (by simp)]; simp
  have HP := hide (first_number tolds n (w.heap.size + 1) w.heap.size 7 _ (by decide) hT (by simp) hC)
  have HB := hide (bstep (balloc w (.cells #[.int .i64 n] 3)) (balloc _ (.cells (tabCells tolds) 103)))
  rw [show tolds.length = 7 from rfl, ← unhide HI] at HP
  generalize tabCells tolds = tc at *
  clear hT hC HI
  go_wp2_with fail
  refine (unhide HP).mono ?_
  rintro e w4 ⟨x, rfl, hb4⟩
  have hf0 := @field_0
  have hf1 := @field_1
  go_wp2_with fail
  go_ret2
  exact ⟨rfl, bstep (unhide HB) hb4⟩

set_option maxHeartbeats 1000000 in
set_option maxRecDepth 100000 in
theorem Name_no (n : Int) (w : World) (h : ¬ (1 ≤ n ∧ n ≤ 7)) :
    Calls Tryz.prog 65 #[.int .i64 n] w fun e w' => e = .returned (.tuple #[.string ⟨#[]⟩, .int .i64 6]) ∧ Below w.heap.size w w' := by
  have HI : Hid (nm tolds n = ⟨#[]⟩) := nameI_no n h
  go_enter Tryz.func65, Tryz.ntmps65
  go_wp2_with fail
  refine (told_any _).mono ?_
  rintro e w3 ⟨rfl, hw⟩
  replace hw := hw.symm
  subst hw
  have hT : Tab ((w.alloc (.cells #[.int .i64 n] 3)).alloc (.cells (tabCells tolds) 103)) (w.heap.size + 1) tolds := by
    have e : (w.alloc (.cells #[.int .i64 n] 3)).heap.size = w.heap.size + 1 := by simp
    rw [← e]; exact Tab.new _ _ _
  have hC : ((w.alloc (.cells #[.int .i64 n] 3)).alloc (.cells (tabCells tolds) 103)).cell? ⟨w.heap.size, 0, none⟩ = some (.int .i64 n) := by
    rw [World.cell?_alloc_lt _ _ _ (by simp)]; simp
  have HP := hide (first_number tolds n (w.heap.size + 1) w.heap.size 7 _ (by decide) hT (by simp) hC)
  have HB := hide (bstep (balloc w (.cells #[.int .i64 n] 3)) (balloc _ (.cells (tabCells tolds) 103)))
  rw [show tolds.length = 7 from rfl, unhide HI] at HP
  generalize tabCells tolds = tc at *
  clear hT hC HI
  go_wp2_with fail
  refine (unhide HP).mono ?_
  rintro e w4 ⟨x, rfl, hb4⟩
  have hf0 := @field_0
  have hf1 := @field_1
  go_wp2_with fail
  go_ret2
  exact ⟨rfl, bstep (unhide HB) hb4⟩
set_option maxHeartbeats 400000 in
set_option maxRecDepth 100000 in
theorem kind_yes (n : Int) (w : World) (h : 1 ≤ n ∧ n ≤ 7) : Calls Tryz.prog 99 #[.int .i64 n] w fun e w' => e = .returned (.int .i64 0) ∧ Below w.heap.size w w' := by
  go_enter Tryz.func99, Tryz.ntmps99
  go_wp2_with fail
  refine (Name_yes n _ h).mono ?_
  rintro e w1 ⟨rfl, hb⟩
  have HB := hide hb
  clear hb
  go_wp2_with fail
  go_ret
  exact ⟨rfl, unhide HB⟩
set_option maxHeartbeats 400000 in
set_option maxRecDepth 100000 in
theorem kind_no (n : Int) (w : World) (h : ¬ (1 ≤ n ∧ n ≤ 7)) : Calls Tryz.prog 99 #[.int .i64 n] w fun e w' => e = .returned (.int .i64 6) ∧ Below w.heap.size w w' := by
  go_enter Tryz.func99, Tryz.ntmps99
  go_wp2_with fail
  refine (Name_no n _ h).mono ?_
  rintro e w1 ⟨rfl, hb⟩
  have HB := hide hb
  clear hb
  go_wp2_with fail
  go_ret
  exact ⟨rfl, unhide HB⟩
end Go.Proofs.YtaiinjfnkmidbaaGreatDoor

namespace Go.Proofs.YtaiinjfnkmidbaaGreatDoor
open Go.RowKit
set_option linter.unusedVariables false

theorem decE_1 (l : List Int) : M.decE 1 l = M.dec l := by unfold M.decE; rw [M.TE_8]
theorem decE_2 (l : List Int) : M.decE 2 l = M.dec16 false l := by unfold M.decE; rw [show (2 : Int) = (if false then 3 else 2) from rfl, M.TE_16]
theorem decE_3 (l : List Int) : M.decE 3 l = M.dec16 true l := by unfold M.decE; rw [show (3 : Int) = (if true then 3 else 2) from rfl, M.TE_16]
theorem decE_4 (l : List Int) : M.decE 4 l = M.decS false l := by unfold M.decE; rw [show (4 : Int) = (if false then 5 else 4) from rfl, M.TE_S]
theorem decE_5 (l : List Int) : M.decE 5 l = M.decS true l := by unfold M.decE; rw [show (5 : Int) = (if true then 5 else 4) from rfl, M.TE_S]
theorem decE_6 (l : List Int) : M.decE 6 l = M.kdec l := by unfold M.decE; rw [M.TE_K]; exact M.gk_dec l
theorem decE_7 (s : ByteArray) : M.decE 7 (bl s) = if s.size = 0 then [] else [65533] := by
  unfold M.decE; rw [M.TE_X]
  show (if (false || (bl s).isEmpty) = true then [] else [65533]) = _
  have : (bl s).isEmpty = decide (s.size = 0) := by rw [← bl_len, Bool.eq_iff_iff]; simp [List.isEmpty_iff]
  rw [Bool.false_or, this]; simp only [decide_eq_true_eq]

set_option maxHeartbeats 800000 in
set_option maxRecDepth 100000 in
theorem waits_any (e : Int) (s : ByteArray) (w : World) (he : 1 ≤ e ∧ e ≤ 7) (hm : s.size ≤ maxLen) (h8 : e = 1 → s.size ≤ 3000) : Calls Tryz.prog 121 #[.int .i64 e, .string s] w fun e' w' => e' = .returned (.int .i64 (M.wE e (bl s))) ∧ Below w.heap.size w w' := by
  obtain rfl | rfl | rfl | rfl | rfl | rfl | rfl : e = 1 ∨ e = 2 ∨ e = 3 ∨ e = 4 ∨ e = 5 ∨ e = 6 ∨ e = 7 := by omega
  · have H := fun w => split_any s w (h8 rfl)
    have HW : Hid (M.wE 1 (bl s) = M.spl (bl s)) := hide rfl
    go_enter Tryz.func121, Tryz.ntmps121
    go_wp2_with fail
    refine (H _).mono ?_
    rintro e w1 ⟨rfl, hb⟩
    have HB := hide hb
    clear hb H
    go_wp2_with fail
    go_ret
    exact ⟨by rw [unhide HW]; rfl, unhide HB⟩
  · have H := fun w => units_any false s w hm
    have HW : Hid (M.wE 2 (bl s) = (M.wu false (bl s) : Nat)) := hide rfl
    go_enter Tryz.func121, Tryz.ntmps121
    go_wp2_with fail
    refine (H _).mono ?_
    rintro e w1 ⟨rfl, hw⟩
    replace hw := hw.symm
    subst hw
    clear H
    go_wp2_with fail
    go_ret
    exact ⟨by rw [unhide HW]; rfl, Below.refl _ _⟩
  · have H := fun w => units_any true s w hm
    have HW : Hid (M.wE 3 (bl s) = (M.wu true (bl s) : Nat)) := hide rfl
    go_enter Tryz.func121, Tryz.ntmps121
    go_wp2_with fail
    refine (H _).mono ?_
    rintro e w1 ⟨rfl, hw⟩
    replace hw := hw.symm
    subst hw
    clear H
    go_wp2_with fail
    go_ret
    exact ⟨by rw [unhide HW]; rfl, Below.refl _ _⟩
  · go_enter Tryz.func121, Tryz.ntmps121
    go_wp2_with fail
    go_ret
    exact ⟨rfl, Below.refl _ _⟩
  · go_enter Tryz.func121, Tryz.ntmps121
    go_wp2_with fail
    go_ret
    exact ⟨rfl, Below.refl _ _⟩
  · have H := fun w => waitsK_any s w hm
    have HW : Hid (M.wE 6 (bl s) = (M.wk (bl s) : Nat)) := hide rfl
    go_enter Tryz.func121, Tryz.ntmps121
    go_wp2_with fail
    refine (H _).mono ?_
    rintro e w1 ⟨rfl, hw⟩
    replace hw := hw.symm
    subst hw
    clear H
    go_wp2_with fail
    go_ret
    exact ⟨by rw [unhide HW]; rfl, Below.refl _ _⟩
  · go_enter Tryz.func121, Tryz.ntmps121
    go_wp2_with fail
    go_ret
    exact ⟨rfl, Below.refl _ _⟩
set_option maxHeartbeats 800000 in
set_option maxRecDepth 100000 in
theorem waits_long (s : ByteArray) (w : World) (hm : s.size ≤ maxLen) (h8 : 3000 < s.size) : Calls Tryz.prog 121 #[.int .i64 1, .string s] w fun e' w' => e' = .returned (.int .i64 0) ∧ Below w.heap.size w w' := by
  have H := fun w => split_long s w h8 hm
  go_enter Tryz.func121, Tryz.ntmps121
  go_wp2_with fail
  refine (H _).mono ?_
  rintro e w1 ⟨rfl, hw⟩
  replace hw := hw.symm
  subst hw
  clear H
  go_wp2_with fail
  go_ret
  exact ⟨rfl, Below.refl _ _⟩

set_option maxHeartbeats 800000 in
set_option maxRecDepth 100000 in
theorem stop_text (s : ByteArray) (w : World) (hs : s.size ≤ 3000) : Calls Tryz.prog 93 #[.string s, .func (Fn.func 94) #[] #[]] w fun e w' => ∃ v, e = .returned (.tuple #[v, .int .i64 0]) ∧ Ints w' v (M.decE 7 (bl s)) ∧ Below w.heap.size w w' := by
  have HD := hide (decE_7 s)
  go_enter Tryz.func93, Tryz.ntmps93
  go_wp2_with fail
  refine (stop_any s _).mono ?_
  rintro e w1 ⟨v, rfl, hI, hb⟩
  obtain ⟨ao, cap, rfl⟩ := owns_shape hI
  have HI := hide (Ints.of_owns hI)
  have HB := hide hb
  clear hI hb
  generalize (if s.size = 0 then [] else [(65533 : Int)]) = L at *
  go_wp2_with fail
  go_ret2
  exact ⟨_, rfl, by rw [unhide HD]; exact unhide HI, unhide HB⟩

set_option maxHeartbeats 1600000 in
set_option maxRecDepth 100000 in
theorem sdecode_any (e : Int) (s : ByteArray) (w : World) (he : 1 ≤ e ∧ e ≤ 7) (hs : s.size ≤ 3000) : Calls Tryz.prog 42 #[.int .i64 e, .string s] w fun e' w' => ∃ v, e' = .returned (.tuple #[v, .int .i64 0]) ∧ Ints w' v (M.decE e (bl s)) ∧ Below w.heap.size w w' := by
  obtain rfl | rfl | rfl | rfl | rfl | rfl | rfl : e = 1 ∨ e = 2 ∨ e = 3 ∨ e = 4 ∨ e = 5 ∨ e = 6 ∨ e = 7 := by omega
  · have H := fun w => decode_any s w hs
    have HD := hide (decE_1 (bl s))
    go_enter Tryz.func42, Tryz.ntmps42
    go_wp2_with fail
    refine (H _).mono ?_
    rintro e w1 ⟨v, rfl, hI, hb⟩
    rw [← unhide HD] at hI
    have HI := hide hI
    have HB := hide hb
    obtain ⟨ao, cap, rfl, -⟩ := hI
    clear hb H
    go_wp2_with fail
    go_ret2
    exact ⟨_, rfl, unhide HI, unhide HB⟩
  · have H := fun w => decode16_any false s w hs
    have HD := hide (decE_2 (bl s))
    go_enter Tryz.func42, Tryz.ntmps42
    go_wp2_with fail
    refine (H _).mono ?_
    rintro e w1 ⟨v, rfl, hI, hb⟩
    rw [← unhide HD] at hI
    have HI := hide hI
    have HB := hide hb
    obtain ⟨ao, cap, rfl, -⟩ := hI
    clear hb H
    go_wp2_with fail
    go_ret2
    exact ⟨_, rfl, unhide HI, unhide HB⟩
  · have H := fun w => decode16_any true s w hs
    have HD := hide (decE_3 (bl s))
    go_enter Tryz.func42, Tryz.ntmps42
    go_wp2_with fail
    refine (H _).mono ?_
    rintro e w1 ⟨v, rfl, hI, hb⟩
    rw [← unhide HD] at hI
    have HI := hide hI
    have HB := hide hb
    obtain ⟨ao, cap, rfl, -⟩ := hI
    clear hb H
    go_wp2_with fail
    go_ret2
    exact ⟨_, rfl, unhide HI, unhide HB⟩
  · have H := fun w => decodeS_any false s w hs
    have HD := hide (decE_4 (bl s))
    go_enter Tryz.func42, Tryz.ntmps42
    go_wp2_with fail
    refine (H _).mono ?_
    rintro e w1 ⟨v, rfl, hI, hb⟩
    rw [← unhide HD] at hI
    have HI := hide hI
    have HB := hide hb
    obtain ⟨ao, cap, rfl, -⟩ := hI
    clear hb H
    go_wp2_with fail
    go_ret2
    exact ⟨_, rfl, unhide HI, unhide HB⟩
  · have H := fun w => decodeS_any true s w hs
    have HD := hide (decE_5 (bl s))
    go_enter Tryz.func42, Tryz.ntmps42
    go_wp2_with fail
    refine (H _).mono ?_
    rintro e w1 ⟨v, rfl, hI, hb⟩
    rw [← unhide HD] at hI
    have HI := hide hI
    have HB := hide hb
    obtain ⟨ao, cap, rfl, -⟩ := hI
    clear hb H
    go_wp2_with fail
    go_ret2
    exact ⟨_, rfl, unhide HI, unhide HB⟩
  · have H := fun w => kdecode_any s w hs
    have HD := hide (decE_6 (bl s))
    go_enter Tryz.func42, Tryz.ntmps42
    go_wp2_with fail
    refine (H _).mono ?_
    rintro e w1 ⟨v, rfl, hI, hb⟩
    rw [← unhide HD] at hI
    have HI := hide hI
    have HB := hide hb
    obtain ⟨ao, cap, rfl, -⟩ := hI
    clear hb H
    go_wp2_with fail
    go_ret2
    exact ⟨_, rfl, unhide HI, unhide HB⟩
  · have H := fun w => stop_text s w hs
    go_enter Tryz.func42, Tryz.ntmps42
    go_wp2_with fail
    refine (H _).mono ?_
    rintro e w1 ⟨v, rfl, hI, hb⟩
    have HI := hide hI
    have HB := hide hb
    obtain ⟨ao, cap, rfl, -⟩ := hI
    clear hb H
    go_wp2_with fail
    go_ret2
    exact ⟨_, rfl, unhide HI, unhide HB⟩
set_option maxHeartbeats 400000 in
set_option maxRecDepth 100000 in
theorem sdecode_kind (e : Int) (s : ByteArray) (w : World) (he : ¬ (1 ≤ e ∧ e ≤ 7)) : Calls Tryz.prog 42 #[.int .i64 e, .string s] w fun e' w' => e' = .returned (.tuple #[.slice none 0 0, .int .i64 6]) ∧ w' = w := by
  have h1 : (e == 1) = false := by simp; omega
  have h2 : (e == 2) = false := by simp; omega
  have h3 : (e == 3) = false := by simp; omega
  have h4 : (e == 4) = false := by simp; omega
  have h5 : (e == 5) = false := by simp; omega
  have h6 : (e == 6) = false := by simp; omega
  have h7 : (e == 7) = false := by simp; omega
  go_enter Tryz.func42, Tryz.ntmps42
  go_wp2_with fail
  go_ret2
  exact ⟨rfl, rfl⟩
theorem stop_long (s : ByteArray) (w : World) (hs : 3000 < s.size) (hm : s.size ≤ maxLen) : Calls Tryz.prog 93 #[.string s, .func (Fn.func 94) #[] #[]] w fun e w' => e = .returned (.tuple #[.slice none 0 0, .int .i64 2]) ∧ w' = w := by
  unfold maxLen at hm
  go_enter Tryz.func93, Tryz.ntmps93
  go_wp2
  go_ret2
  exact ⟨rfl, rfl⟩
set_option maxHeartbeats 1600000 in
set_option maxRecDepth 100000 in
theorem sdecode_long (e : Int) (s : ByteArray) (w : World) (he : 1 ≤ e ∧ e ≤ 7) (hs : 3000 < s.size) (hm : s.size ≤ maxLen) : Calls Tryz.prog 42 #[.int .i64 e, .string s] w fun e' w' => e' = .returned (.tuple #[.slice none 0 0, .int .i64 2]) ∧ Below w.heap.size w w' := by
  obtain rfl | rfl | rfl | rfl | rfl | rfl | rfl : e = 1 ∨ e = 2 ∨ e = 3 ∨ e = 4 ∨ e = 5 ∨ e = 6 ∨ e = 7 := by omega
  · have H := fun w => decode_long s w hs hm
    go_enter Tryz.func42, Tryz.ntmps42
    go_wp2_with fail
    refine (H _).mono ?_
    rintro e w1 ⟨rfl, hw⟩
    replace hw := hw.symm
    subst hw
    clear H
    go_wp2_with fail
    go_ret2
    exact ⟨rfl, Below.refl _ _⟩
  · have H := fun w => decode16_long false s w hs hm
    go_enter Tryz.func42, Tryz.ntmps42
    go_wp2_with fail
    refine (H _).mono ?_
    rintro e w1 ⟨rfl, hb⟩
    have HB := hide hb
    clear hb
    clear H
    go_wp2_with fail
    go_ret2
    exact ⟨rfl, unhide HB⟩
  · have H := fun w => decode16_long true s w hs hm
    go_enter Tryz.func42, Tryz.ntmps42
    go_wp2_with fail
    refine (H _).mono ?_
    rintro e w1 ⟨rfl, hb⟩
    have HB := hide hb
    clear hb
    clear H
    go_wp2_with fail
    go_ret2
    exact ⟨rfl, unhide HB⟩
  · have H := fun w => decodeS_long false s w hs hm
    go_enter Tryz.func42, Tryz.ntmps42
    go_wp2_with fail
    refine (H _).mono ?_
    rintro e w1 ⟨rfl, hb⟩
    have HB := hide hb
    clear hb
    clear H
    go_wp2_with fail
    go_ret2
    exact ⟨rfl, unhide HB⟩
  · have H := fun w => decodeS_long true s w hs hm
    go_enter Tryz.func42, Tryz.ntmps42
    go_wp2_with fail
    refine (H _).mono ?_
    rintro e w1 ⟨rfl, hb⟩
    have HB := hide hb
    clear hb
    clear H
    go_wp2_with fail
    go_ret2
    exact ⟨rfl, unhide HB⟩
  · have H := fun w => kdecode_long s w hs hm
    go_enter Tryz.func42, Tryz.ntmps42
    go_wp2_with fail
    refine (H _).mono ?_
    rintro e w1 ⟨rfl, hw⟩
    replace hw := hw.symm
    subst hw
    clear H
    go_wp2_with fail
    go_ret2
    exact ⟨rfl, Below.refl _ _⟩
  · have H := fun w => stop_long s w hs hm
    go_enter Tryz.func42, Tryz.ntmps42
    go_wp2_with fail
    refine (H _).mono ?_
    rintro e w1 ⟨rfl, hw⟩
    replace hw := hw.symm
    subst hw
    clear H
    go_wp2_with fail
    go_ret2
    exact ⟨rfl, Below.refl _ _⟩
end Go.Proofs.YtaiinjfnkmidbaaGreatDoor

namespace Go.Proofs
open Go.Shelf
def Tryz.lays316_ren : Go.Shelf.Ren := ⟨fun | 316 => 104 | n => n, fun | 9 => 9 | 3 => 3 | 4 => 4 | 37 => 151 | 0 => 0 | 127 => 175 | 5 => 5 | n => n, fun | n => n⟩
theorem Tryz.lays316 : Go.Proofs.LaysM.n316 Tryz.prog Tryz.lays316_ren := {
  mixed := by kernel_rfl
  f316 := Tryz.func104.trans (congrArg some (by kernel_rfl))
  t0 := Tryz.underlying0
  a0 := Tryz.isAgg0
  z0 := Tryz.sizeOf0
  v0 := Tryz.zeroValue0
  t3 := Tryz.underlying3
  a3 := Tryz.isAgg3
  z3 := Tryz.sizeOf3
  v3 := Tryz.zeroValue3
  t4 := Tryz.underlying4
  a4 := Tryz.isAgg4
  z4 := Tryz.sizeOf4
  v4 := Tryz.zeroValue4
  t9 := Tryz.underlying9
  a9 := Tryz.isAgg9
  z9 := Tryz.sizeOf9
  v9 := Tryz.zeroValue9
  t37 := Tryz.underlying151
  a37 := Tryz.isAgg151
  z37 := Tryz.sizeOf151
  v37 := Tryz.zeroValue151
  t127 := Tryz.underlying175
  a127 := Tryz.isAgg175
  z127 := Tryz.sizeOf175
  v127 := Tryz.zeroValue175
  t5 := Tryz.underlying5
  a5 := Tryz.isAgg5
  z5 := Tryz.sizeOf5
  v5 := Tryz.zeroValue5
  i0 := by kernel_rfl
  i3 := by kernel_rfl
  i4 := by kernel_rfl
  i5 := by kernel_rfl
  i9 := by kernel_rfl
  i37 := by kernel_rfl
  i127 := by kernel_rfl }
end Go.Proofs
namespace Go.Proofs.YtaiinjfnkmidbaaGreatDoor
open Go.RowKit
set_option linter.unusedVariables false

theorem cloneLib (s : ByteArray) (w : World) (hs : s.size ≤ 4000) : Calls Tryz.prog 104 #[.string s] w fun e w' => e = .returned (.string s) ∧ Below w.heap.size w w' :=
  Any.stringslite_Clone Tryz.lays316 s w (by omega)
set_option maxHeartbeats 400000 in
set_option maxRecDepth 100000 in
theorem clone_any (s : ByteArray) (w : World) (hs : s.size ≤ 4000) : Calls Tryz.prog 49 #[.string s] w fun e w' => e = .returned (.string s) ∧ Below w.heap.size w w' := by
  go_enter Tryz.func49, Tryz.ntmps49
  go_wp2_with fail
  refine (cloneLib s _ hs).mono ?_
  rintro e w1 ⟨rfl, hb⟩
  have HB := hide hb
  clear hb
  go_wp2_with fail
  go_ret
  exact ⟨rfl, unhide HB⟩
end Go.Proofs.YtaiinjfnkmidbaaGreatDoor

namespace Go.Proofs.YtaiinjfnkmidbaaGreatDoor
open Go.RowKit
set_option linter.unusedVariables false

/-- A decoder's cells: its encoding, what waits, signs, whether an escape stood just ahead, whether it has stopped, the slice of what it has told. -/
structure Dc (D : Nat) (e : Int) (r : ByteArray) (g : Int) (fr st : Bool) (v : Value) (w : World) : Prop where
  c0 : w.cell? ⟨D, 0, none⟩ = some (.int .i64 e)
  c1 : w.cell? ⟨D, 1, none⟩ = some (.string r)
  c2 : w.cell? ⟨D, 2, none⟩ = some (.int .i64 g)
  c3 : w.cell? ⟨D, 3, none⟩ = some (.bool fr)
  c4 : w.cell? ⟨D, 4, none⟩ = some (.bool st)
  c5 : w.cell? ⟨D, 5, none⟩ = some v
  f0 : w.frozen? ⟨D, 0, none⟩ = false
  f1 : w.frozen? ⟨D, 1, none⟩ = false
  f2 : w.frozen? ⟨D, 2, none⟩ = false
  f3 : w.frozen? ⟨D, 3, none⟩ = false
  f4 : w.frozen? ⟨D, 4, none⟩ = false
  f5 : w.frozen? ⟨D, 5, none⟩ = false
theorem Dc.lt {D : Nat} {e : Int} {r : ByteArray} {g : Int} {fr st : Bool} {v : Value} {w : World} (h : Dc D e r g fr st v w) : D < w.heap.size := World.block_lt_of_cell? w _ h.c0
theorem Dc.below {D : Nat} {e : Int} {r : ByteArray} {g : Int} {fr st : Bool} {v : Value} {w : World} {w2 : World} (h : Dc D e r g fr st v w) (hb : Below (D + 1) w w2) : Dc D e r g fr st v w2 where
  c0 := (hb.cell (p := ⟨D, 0, none⟩) (Nat.lt_succ_self _)).trans h.c0
  c1 := (hb.cell (p := ⟨D, 1, none⟩) (Nat.lt_succ_self _)).trans h.c1
  c2 := (hb.cell (p := ⟨D, 2, none⟩) (Nat.lt_succ_self _)).trans h.c2
  c3 := (hb.cell (p := ⟨D, 3, none⟩) (Nat.lt_succ_self _)).trans h.c3
  c4 := (hb.cell (p := ⟨D, 4, none⟩) (Nat.lt_succ_self _)).trans h.c4
  c5 := (hb.cell (p := ⟨D, 5, none⟩) (Nat.lt_succ_self _)).trans h.c5
  f0 := (hb.frozen (p := ⟨D, 0, none⟩) (Nat.lt_succ_self _)).trans h.f0
  f1 := (hb.frozen (p := ⟨D, 1, none⟩) (Nat.lt_succ_self _)).trans h.f1
  f2 := (hb.frozen (p := ⟨D, 2, none⟩) (Nat.lt_succ_self _)).trans h.f2
  f3 := (hb.frozen (p := ⟨D, 3, none⟩) (Nat.lt_succ_self _)).trans h.f3
  f4 := (hb.frozen (p := ⟨D, 4, none⟩) (Nat.lt_succ_self _)).trans h.f4
  f5 := (hb.frozen (p := ⟨D, 5, none⟩) (Nat.lt_succ_self _)).trans h.f5
theorem Dc.set0 {D : Nat} {e : Int} {r : ByteArray} {g : Int} {fr st : Bool} {v : Value} {w : World} (h : Dc D e r g fr st v w) (x : Int) : Dc D x r g fr st v (w.setCell ⟨D, 0, none⟩ (.int .i64 x)) where
  c0 := World.cell?_setCell_same _ _ _ h.c0
  c1 := (World.cell?_setCell_other _ _ _ _ (by simp)).trans h.c1
  c2 := (World.cell?_setCell_other _ _ _ _ (by simp)).trans h.c2
  c3 := (World.cell?_setCell_other _ _ _ _ (by simp)).trans h.c3
  c4 := (World.cell?_setCell_other _ _ _ _ (by simp)).trans h.c4
  c5 := (World.cell?_setCell_other _ _ _ _ (by simp)).trans h.c5
  f0 := by rw [World.frozen?_setCell]; exact h.f0
  f1 := by rw [World.frozen?_setCell]; exact h.f1
  f2 := by rw [World.frozen?_setCell]; exact h.f2
  f3 := by rw [World.frozen?_setCell]; exact h.f3
  f4 := by rw [World.frozen?_setCell]; exact h.f4
  f5 := by rw [World.frozen?_setCell]; exact h.f5
theorem Dc.set1 {D : Nat} {e : Int} {r : ByteArray} {g : Int} {fr st : Bool} {v : Value} {w : World} (h : Dc D e r g fr st v w) (x : ByteArray) : Dc D e x g fr st v (w.setCell ⟨D, 1, none⟩ (.string x)) where
  c0 := (World.cell?_setCell_other _ _ _ _ (by simp)).trans h.c0
  c1 := World.cell?_setCell_same _ _ _ h.c1
  c2 := (World.cell?_setCell_other _ _ _ _ (by simp)).trans h.c2
  c3 := (World.cell?_setCell_other _ _ _ _ (by simp)).trans h.c3
  c4 := (World.cell?_setCell_other _ _ _ _ (by simp)).trans h.c4
  c5 := (World.cell?_setCell_other _ _ _ _ (by simp)).trans h.c5
  f0 := by rw [World.frozen?_setCell]; exact h.f0
  f1 := by rw [World.frozen?_setCell]; exact h.f1
  f2 := by rw [World.frozen?_setCell]; exact h.f2
  f3 := by rw [World.frozen?_setCell]; exact h.f3
  f4 := by rw [World.frozen?_setCell]; exact h.f4
  f5 := by rw [World.frozen?_setCell]; exact h.f5
theorem Dc.set2 {D : Nat} {e : Int} {r : ByteArray} {g : Int} {fr st : Bool} {v : Value} {w : World} (h : Dc D e r g fr st v w) (x : Int) : Dc D e r x fr st v (w.setCell ⟨D, 2, none⟩ (.int .i64 x)) where
  c0 := (World.cell?_setCell_other _ _ _ _ (by simp)).trans h.c0
  c1 := (World.cell?_setCell_other _ _ _ _ (by simp)).trans h.c1
  c2 := World.cell?_setCell_same _ _ _ h.c2
  c3 := (World.cell?_setCell_other _ _ _ _ (by simp)).trans h.c3
  c4 := (World.cell?_setCell_other _ _ _ _ (by simp)).trans h.c4
  c5 := (World.cell?_setCell_other _ _ _ _ (by simp)).trans h.c5
  f0 := by rw [World.frozen?_setCell]; exact h.f0
  f1 := by rw [World.frozen?_setCell]; exact h.f1
  f2 := by rw [World.frozen?_setCell]; exact h.f2
  f3 := by rw [World.frozen?_setCell]; exact h.f3
  f4 := by rw [World.frozen?_setCell]; exact h.f4
  f5 := by rw [World.frozen?_setCell]; exact h.f5
theorem Dc.set3 {D : Nat} {e : Int} {r : ByteArray} {g : Int} {fr st : Bool} {v : Value} {w : World} (h : Dc D e r g fr st v w) (x : Bool) : Dc D e r g x st v (w.setCell ⟨D, 3, none⟩ (.bool x)) where
  c0 := (World.cell?_setCell_other _ _ _ _ (by simp)).trans h.c0
  c1 := (World.cell?_setCell_other _ _ _ _ (by simp)).trans h.c1
  c2 := (World.cell?_setCell_other _ _ _ _ (by simp)).trans h.c2
  c3 := World.cell?_setCell_same _ _ _ h.c3
  c4 := (World.cell?_setCell_other _ _ _ _ (by simp)).trans h.c4
  c5 := (World.cell?_setCell_other _ _ _ _ (by simp)).trans h.c5
  f0 := by rw [World.frozen?_setCell]; exact h.f0
  f1 := by rw [World.frozen?_setCell]; exact h.f1
  f2 := by rw [World.frozen?_setCell]; exact h.f2
  f3 := by rw [World.frozen?_setCell]; exact h.f3
  f4 := by rw [World.frozen?_setCell]; exact h.f4
  f5 := by rw [World.frozen?_setCell]; exact h.f5
theorem Dc.set4 {D : Nat} {e : Int} {r : ByteArray} {g : Int} {fr st : Bool} {v : Value} {w : World} (h : Dc D e r g fr st v w) (x : Bool) : Dc D e r g fr x v (w.setCell ⟨D, 4, none⟩ (.bool x)) where
  c0 := (World.cell?_setCell_other _ _ _ _ (by simp)).trans h.c0
  c1 := (World.cell?_setCell_other _ _ _ _ (by simp)).trans h.c1
  c2 := (World.cell?_setCell_other _ _ _ _ (by simp)).trans h.c2
  c3 := (World.cell?_setCell_other _ _ _ _ (by simp)).trans h.c3
  c4 := World.cell?_setCell_same _ _ _ h.c4
  c5 := (World.cell?_setCell_other _ _ _ _ (by simp)).trans h.c5
  f0 := by rw [World.frozen?_setCell]; exact h.f0
  f1 := by rw [World.frozen?_setCell]; exact h.f1
  f2 := by rw [World.frozen?_setCell]; exact h.f2
  f3 := by rw [World.frozen?_setCell]; exact h.f3
  f4 := by rw [World.frozen?_setCell]; exact h.f4
  f5 := by rw [World.frozen?_setCell]; exact h.f5
theorem Dc.set5 {D : Nat} {e : Int} {r : ByteArray} {g : Int} {fr st : Bool} {v : Value} {w : World} (h : Dc D e r g fr st v w) (x : Value) : Dc D e r g fr st x (w.setCell ⟨D, 5, none⟩ (x)) where
  c0 := (World.cell?_setCell_other _ _ _ _ (by simp)).trans h.c0
  c1 := (World.cell?_setCell_other _ _ _ _ (by simp)).trans h.c1
  c2 := (World.cell?_setCell_other _ _ _ _ (by simp)).trans h.c2
  c3 := (World.cell?_setCell_other _ _ _ _ (by simp)).trans h.c3
  c4 := (World.cell?_setCell_other _ _ _ _ (by simp)).trans h.c4
  c5 := World.cell?_setCell_same _ _ _ h.c5
  f0 := by rw [World.frozen?_setCell]; exact h.f0
  f1 := by rw [World.frozen?_setCell]; exact h.f1
  f2 := by rw [World.frozen?_setCell]; exact h.f2
  f3 := by rw [World.frozen?_setCell]; exact h.f3
  f4 := by rw [World.frozen?_setCell]; exact h.f4
  f5 := by rw [World.frozen?_setCell]; exact h.f5
/-- A decoder in memory: its cells, and the row of what it has told, all of it behind its own block. -/
def Dl (D : Nat) (e : Int) (r : ByteArray) (t : M.St) (xs : List Int) (w : World) : Prop := ∃ v, Dc D e r t.1 t.2.1 t.2.2 v w ∧ w.ownsRow (D + 1) 3 1 v xs.length (xs.map (Value.int .i64))
/-- What tell answers: nothing. -/
def ToldD (D : Nat) (e : Int) (r : ByteArray) (t : M.St) (xs : List Int) (l : List Int) (w w' : World) : Prop := Dl D e r (M.TE e t l).2 (xs ++ (M.TE e t l).1) w' ∧ Below D w w'

set_option maxHeartbeats 800000 in
set_option maxRecDepth 100000 in
theorem tell_plain (D : Nat) (e : Int) (r : ByteArray) (t : M.St) (xs : List Int) (s : ByteArray) (w : World) (he : 1 ≤ e ∧ e ≤ 5) (hs : s.size ≤ 3000) (hx : xs.length ≤ 20000) (hE : (M.TE e t (bl s)) = (M.decE e (bl s), t)) (hl : (M.decE e (bl s)).length ≤ 3000) (hD : Dl D e r t xs w) :
    Calls Tryz.prog 162 #[.pointer (some ⟨D, 0, none⟩), .string s] w fun e' w' => e' = .returned (.tuple #[]) ∧ ToldD D e r t xs (bl s) w w' := by
  obtain ⟨v, hC, ho⟩ := hD
  have HC := hide hC
  obtain ⟨c0, c1, c2, c3, c4, c5, f0, f1, f2, f3, f4, f5⟩ := hC
  have hDs : D < w.heap.size := World.block_lt_of_cell? w _ c0
  obtain ⟨ao, cap, hsh⟩ := owns_shape ho
  subst hsh
  have HO := hide ho
  have HE := hide hE
  have e6 : (e == 6) = false := by simp; omega
  have e7 : (e == 7) = false := by simp; omega
  have H := fun w => sdecode_any e s w (by omega) hs
  generalize M.decE e (bl s) = L at *
  clear ho hE
  go_enter Tryz.func162, Tryz.ntmps162
  go_wp2_with fail
  refine (H _).mono ?_
  rintro e' w1 ⟨u, rfl, hI, hb⟩
  obtain ⟨au, cu, hsu, -⟩ := id hI
  subst hsu
  have HI := hide hI
  have HB := hide hb
  have HC1 := hide ((unhide HC).below (hb.mono hDs))
  have HO1 := hide (owns_below (unhide HO) hb)
  have hz := hb.size
  obtain ⟨d0, d1, d2, d3, d4, d5, k0, k1, k2, k3, k4, k5⟩ := unhide HC1
  clear hI hb H
  go_wp2_with (at_builtin; refine append_ints rfl (.tmp 27) (.tmp 28) rfl (D + 1) _ xs rfl (unhide HO1) _ L rfl (unhide HI) (by omega) (by omega) ?_)
  intro v2 w2 ho2 hb2
  obtain ⟨ao2, cap2, hsh2⟩ := owns_shape ho2
  subst hsh2
  have HC2 := hide ((unhide HC1).below hb2)
  have HO2 := hide ho2
  have HB2 := hide (((unhide HB).mono (Nat.le_of_lt hDs)).trans (hb2.mono (Nat.le_succ D)))
  obtain ⟨i0, i1, i2, i3, i4, i5, j0, j1, j2, j3, j4, j5⟩ := unhide HC2
  have hD2 : D < w2.heap.size := World.block_lt_of_cell? w2 _ i0
  clear ho2 hb2
  go_wp2_with fail
  go_end0
  refine ⟨rfl, ⟨_, by rw [unhide HE]; exact (unhide HC2).set5 _, ?_⟩, bset (unhide HB2) ⟨D, 5, none⟩ _ (Nat.le_refl _)⟩
  rw [unhide HE]
  exact owns_set (by simpa using unhide HO2) ⟨D, 5, none⟩ (Nat.lt_succ_self _) _

set_option maxHeartbeats 1600000 in
set_option maxRecDepth 100000 in
theorem tell_stopped (D : Nat) (r : ByteArray) (t : M.St) (xs : List Int) (s : ByteArray) (w : World) (ht : t.2.2 = true) (hD : Dl D 7 r t xs w) :
    Calls Tryz.prog 162 #[.pointer (some ⟨D, 0, none⟩), .string s] w fun e' w' => e' = .returned (.tuple #[]) ∧ ToldD D 7 r t xs (bl s) w w' := by
  have HT : Hid (ToldD D 7 r t xs (bl s) w w) := hide (by
    unfold ToldD
    rw [M.TE_X, ht]
    refine ⟨?_, Below.refl _ _⟩
    have e1 : (t.1, t.2.1, true || !(bl s).isEmpty) = t := by rw [Bool.true_or, ← ht]
    rw [e1, Bool.true_or, if_pos rfl, List.append_nil]
    exact hD)
  obtain ⟨v, hC, ho⟩ := hD
  obtain ⟨c0, c1, c2, c3, c4, c5, f0, f1, f2, f3, f4, f5⟩ := hC
  rw [ht] at c4
  have hDs : D < w.heap.size := World.block_lt_of_cell? w _ c0
  clear ho
  go_enter Tryz.func162, Tryz.ntmps162
  go_wp2_with fail
  go_end0
  exact ⟨rfl, unhide HT⟩

set_option maxHeartbeats 1600000 in
set_option maxRecDepth 100000 in
theorem tell_stop (D : Nat) (r : ByteArray) (t : M.St) (xs : List Int) (s : ByteArray) (w : World) (hx : xs.length ≤ 20000) (ht : t.2.2 = false) (hD : Dl D 7 r t xs w) :
    Calls Tryz.prog 162 #[.pointer (some ⟨D, 0, none⟩), .string s] w fun e' w' => e' = .returned (.tuple #[]) ∧ ToldD D 7 r t xs (bl s) w w' := by
  have hie : (bl s).isEmpty = decide (s.size = 0) := by rw [← bl_len, Bool.eq_iff_iff]; simp [List.isEmpty_iff]
  obtain ⟨L, hL⟩ : ∃ L, (if s.size = 0 then [] else [(65533 : Int)]) = L := ⟨_, rfl⟩
  have H := fun w => stop_any s w
  have hll : L.length ≤ 1 := by rw [← hL]; split <;> simp
  obtain ⟨q, hq⟩ : ∃ q, s.toList.isEmpty = q := ⟨_, rfl⟩
  have hq2 : q = decide (s.size = 0) := by rw [← hq, isEmpty_size]
  have HE : Hid (M.TE 7 t (bl s) = (L, (t.1, t.2.1, !q))) := hide (by
    rw [M.TE_X, ht, hie, hq2, ← hL, Bool.false_or, Bool.false_or]
    simp only [decide_eq_true_eq])
  rw [hL] at H
  clear hL hie hq2
  obtain ⟨v, hC, ho⟩ := hD
  have HC := hide hC
  obtain ⟨c0, c1, c2, c3, c4, c5, f0, f1, f2, f3, f4, f5⟩ := hC
  rw [ht] at c4
  have hDs : D < w.heap.size := World.block_lt_of_cell? w _ c0
  obtain ⟨ao, cap, hsh⟩ := owns_shape ho
  subst hsh
  have HO := hide ho
  clear ho
  go_enter Tryz.func162, Tryz.ntmps162
  go_wp2_with fail
  go_region_law ((first
      | (refine step_append_ints (by rfl) _ _ (by rfl) (D + 1) _ xs (by rfl) (unhide HO1) _ L (by rfl) (unhide HI) (by omega) (by omega) ?_; intro ao2 cap2 w2 ho2 hb2; have HC2 := hide ((unhide HC1).below hb2); have HO2 := hide ho2; have HB2 := hide ((unhide HB).trans (hb2.mono (Nat.le_succ D))); obtain ⟨i0, i1, i2, i3, i4, i5, j0, j1, j2, j3, j4, j5⟩ := unhide HC2; have hD2 : D < w2.heap.size := World.block_lt_of_cell? w2 _ i0; clear ho2 hb2)
      | (go_simp; go_at_call 94; refine (H _).mono ?_; rintro e' w1 ⟨u, rfl, hI, hb⟩; obtain ⟨au, cu, hsu⟩ := owns_shape hI; subst hsu; have HI := hide (Ints.of_owns hI); have HB : Hid (Below D w w1) := hide ((below_drewN (Below.refl D w) 1).trans (hb.mono (Nat.le_of_lt hDs))); have HC1 := hide ((unhide HC).below ((below_drewN (Below.refl _ w) 1).trans (hb.mono hDs))); have HO1 := hide (owns_below (owns_below (unhide HO) (below_drewN (Below.refl _ w) 1)) hb); have hz : w.heap.size ≤ w1.heap.size := hb.size; obtain ⟨d0, d1, d2, d3, d4, d5, k0, k1, k2, k3, k4, k5⟩ := unhide HC1; clear hI hb)))
  all_goals
    clear H
    go_wp2_with fail
    go_end0
    refine ⟨rfl, ⟨_, by rw [unhide HE]; exact ((unhide HC2).set5 _).set4 _, ?_⟩, bset (bset (unhide HB2) ⟨D, 5, none⟩ _ (Nat.le_refl _)) ⟨D, 4, none⟩ _ (Nat.le_refl _)⟩
    rw [unhide HE]
    exact owns_set (owns_set (by simpa using unhide HO2) ⟨D, 5, none⟩ (Nat.lt_succ_self _) _) ⟨D, 4, none⟩ (Nat.lt_succ_self _) _
end Go.Proofs.YtaiinjfnkmidbaaGreatDoor

namespace Go.Proofs.YtaiinjfnkmidbaaGreatDoor
open Go.RowKit
set_option linter.unusedVariables false

/-- A slice that holds something lies in another block than a row. -/
def Apart (u v : Value) : Prop := ∀ b off n c, u = .slice (some ⟨b, off, none⟩) n c → 0 < n → v.ownBlock ≠ some b
theorem Apart.of_owns {w : World} {B e size n : Nat} {u v : Value} {xs : List Value} (h : w.ownsRow B e size u n xs) (hv : ∀ g, v.ownBlock = some g → g < B) : Apart u v := by
  intro b off n' c hu hn hb
  have := hv b hb
  rcases h.2 with ⟨rfl, _⟩ | ⟨g, cap, cur, rfl, hg, _⟩
  · cases hu
  · injection hu with e _ _
    injection e with e
    injection e with e _ _
    omega
theorem owns_lt {w : World} {B e size n : Nat} {v : Value} {xs : List Value} (h : w.ownsRow B e size v n xs) : ∀ g, v.ownBlock = some g → g < w.heap.size := fun g hg => (h.lt g hg).2
end Go.Proofs.YtaiinjfnkmidbaaGreatDoor

namespace Go.Proofs.YtaiinjfnkmidbaaGreatDoor
open Go.RowKit
set_option linter.unusedVariables false

theorem append_keep {w : World} {ops : Array Oper} {rest : List Oper} {o : Oper} {a : Act} {Q : Exit → Act → World → Prop} (hw : Region.wanted o (yielded ops a.tmps) = true) (s x : Operand)
    (ho : o.op = .call { callee := .builtin .append, args := #[s, x], argTypes := #[31, 31] }) (base : Nat) (v : Value) (xs : List Int) (hs : a.eval s = v)
    (hown : w.ownsRow base 3 1 v xs.length (xs.map (Value.int .i64))) (u : Value) (ys : List Int) (hx : a.eval x = u) (hI : Ints w u ys) (hlen : xs.length + ys.length ≤ 100000) (hbase : base ≤ w.heap.size)
    (h : ∀ ao cap w', w'.ownsRow base 3 1 (.slice ao (xs ++ ys).length cap) (xs ++ ys).length ((xs ++ ys).map (Value.int .i64)) → Below base w w' → (∀ b k, b < w.heap.size → v.ownBlock ≠ some b → w'.cell? ⟨b, k, none⟩ = w.cell? ⟨b, k, none⟩) →
      wpList Tryz.prog ops Q rest (a.put o.dst (.slice ao (xs ++ ys).length cap)) w') : wpList Tryz.prog ops Q (o :: rest) a w := by
  obtain ⟨i0, hi, hz0, hz1, hz2⟩ := info_parts info3
  obtain ⟨ao, cap, rfl, hm, hn, hc⟩ := hI
  refine BigFrame.wpList_want hw fun K hK => ?_
  cases ao with
  | none =>
    have hy : ys = [] := by
      rcases hc with hc | ⟨b, off, e, _⟩
      · exact hc
      · cases e
    subst hy
    have hcap := hn rfl
    subst hcap
    have hrun := run_append_owned_none (P := Tryz.prog) (w := w) base 31 o.type 3 i0 1 Tryz.underlying31 hi v _ _ hown
    obtain ⟨ao, cap, hsh⟩ := owns_shape hown
    have hK' := hK _ _ (h ao cap w (by rw [List.append_nil, ← hsh]; exact hown) (Below.refl _ _) (fun _ _ _ _ => rfl))
    rw [List.append_nil, ← hsh] at hK'
    unfold Oper.wp
    simp only [List.length_nil] at hx
    simp [execOp, ho, resolve, invoke, builtin, hs, hx, hrun, Result.andThen]
    exact hK'
  | some ad =>
    refine wp_append_own w s x 31 ho base 3 i0 (.int .i64 0) 1 8 Tryz.underlying31 hi hz0 hz1 hz2 rfl (by decide) v _ _ hs hown ad ys.length cap (ys.map (Value.int .i64)) hx (by simp) ?_ ?_ (by unfold maxLen; omega) (by omega) hbase ?_
    · intro j u hj
      have hjl : j < ys.length := by
        rcases Nat.lt_or_ge j ys.length with h | h
        · exact h
        · simp [List.getElem?_eq_none (show (ys.map (Value.int .i64)).length ≤ j by simpa using h)] at hj
      rcases hc with hc | ⟨b, off, e, hc⟩
      · subst hc; simp at hjl
      · cases e
        have := hc j hjl
        simp [hjl] at hj
        subst hj
        by_cases hj0 : j = 0
        · subst hj0; simpa [Addr.add, hjl] using this
        · simpa [Addr.add, hj0, hjl] using this
    · intro u hu
      simp at hu
      obtain ⟨y, _, rfl⟩ := hu
      rfl
    · intro v' w' h1 h2 _
      have h1' : w'.ownsRow base 3 1 v' (xs ++ ys).length ((xs ++ ys).map (Value.int .i64)) := by simpa using h1
      obtain ⟨ao', cap', hsh⟩ := owns_shape h1'
      subst hsh
      exact hK _ _ (h ao' cap' w' h1' ((Below.refl _ _).grown h2 hbase (fun k hk => (hown.lt k hk).1)) (fun b k hb hne => h2.cell_far ⟨b, k, none⟩ hb (fun e => hne e.symm)))
theorem tot_few : ∀ (n : Nat) (l : List Int) (h : Int × Bool), l.length ≤ n → (M.Tot M.gk h l).1.length ≤ l.length
  | 0, l, h, hl => by
    have : l = [] := List.eq_nil_of_length_eq_zero (by omega)
    subst this; simp [M.Tot_nil]
  | n + 1, l, h, hl => by
    by_cases h0 : l = []
    · subst h0; simp [M.Tot_nil]
    · have hs := M.gk_size h l h0
      have hf := gk_few h l
      rw [M.Tot_step M.gk_size (s' := (M.gk h l).2.2) (o := (M.gk h l).1) (k := (M.gk h l).2.1) h0 rfl]
      have := tot_few n (l.drop (M.gk h l).2.1) (M.gk h l).2.2 (by simp; omega)
      simp only [List.length_append]
      rw [List.length_drop] at this
      omega
set_option maxHeartbeats 3000000 in
set_option maxRecDepth 100000 in
theorem tell_kana (D : Nat) (r : ByteArray) (t : M.St) (xs : List Int) (s : ByteArray) (w : World) (hg : M.Sg t.1) (hs : s.size ≤ 3003) (hx : xs.length ≤ 20000) (hD : Dl D 6 r t xs w) :
    Calls Tryz.prog 162 #[.pointer (some ⟨D, 0, none⟩), .string s] w fun e' w' => e' = .returned (.tuple #[]) ∧ ToldD D 6 r t xs (bl s) w w' := by
  obtain ⟨g, fr, st⟩ := t
  have H := fun w => tell_own g fr s w hg hs
  obtain ⟨L, g2, fr2, hT⟩ : ∃ L g2 fr2, M.Tot M.gk (g, fr) (bl s) = (L, (g2, fr2)) := ⟨_, _, _, rfl⟩
  have hll : L.length ≤ 3003 := by
    have := tot_few s.size (bl s) (g, fr) (by rw [bl_len]; exact Nat.le_refl _)
    rw [hT, bl_len] at this
    exact Nat.le_trans this hs
  have HE : Hid (M.TE 6 (g, fr, st) (bl s) = (L, (g2, fr2, st))) := hide (by rw [M.TE_K]; show ((M.Tot M.gk (g, fr) (bl s)).1, _, _, st) = _; rw [hT])
  rw [hT] at H
  obtain ⟨v, hC, ho⟩ := hD
  have HC := hide hC
  obtain ⟨c0, c1, c2, c3, c4, c5, f0, f1, f2, f3, f4, f5⟩ := hC
  have hDs : D < w.heap.size := World.block_lt_of_cell? w _ c0
  obtain ⟨ao, cap, hsh⟩ := owns_shape ho
  subst hsh
  have HO := hide ho
  clear ho hT hg
  go_enter Tryz.func162, Tryz.ntmps162
  go_wp2_with fail
  go_region_law ((go_simp; go_at_call 156; refine (H _).mono ?_; rintro e' w1 ⟨u, rfl, hI, hb⟩; obtain ⟨au, cu, hsu⟩ := owns_shape hI; subst hsu; (first
      | (have HW : Hid (Below w.heap.size w w1) := hide ((below_drewN (Below.refl _ w) 1).trans hb); have HI : Hid (w1.ownsRow w.heap.size 3 1 (.slice au L.length cu) L.length (L.map (Value.int .i64))) := hide hI)
      | (have HW : Hid (Below w.heap.size w w1) := hide ((below_drewN ((Below.refl _ w).alloc (Nat.le_refl _) _) 1).trans (hb.mono (by simp))); have HI : Hid (w1.ownsRow (w.heap.size + 1) 3 1 (.slice au L.length cu) L.length (L.map (Value.int .i64))) := hide (by simpa using hI); have q0 : w1.cell? ⟨w.heap.size, 0, none⟩ = some (.int .i64 0) := (hb.cell (p := ⟨w.heap.size, 0, none⟩) (by simp)).trans (by simp [go_sem]); have q1 : w1.cell? ⟨w.heap.size, 1, none⟩ = some (.bool false) := (hb.cell (p := ⟨w.heap.size, 1, none⟩) (by simp)).trans (by simp [go_sem]); have r0 : w1.frozen? ⟨w.heap.size, 0, none⟩ = false := (hb.frozen (p := ⟨w.heap.size, 0, none⟩) (by simp)).trans (by simp [go_sem]); have r1 : w1.frozen? ⟨w.heap.size, 1, none⟩ = false := (hb.frozen (p := ⟨w.heap.size, 1, none⟩) (by simp)).trans (by simp [go_sem]); have hq : w.heap.size < w1.heap.size := World.block_lt_of_cell? w1 _ q0)); clear hI hb))
  all_goals first
    | (skip
       have y0 : ((w1.setCell { block := w.heap.size, off := 0 } (Value.int IntKind.i64 g2)).setCell { block := w.heap.size, off := 1 } (Value.bool fr2)).cell? ⟨w.heap.size, 0, none⟩ = some (.int .i64 g2) := (World.cell?_setCell_other _ _ _ _ (by simp)).trans (World.cell?_setCell_same _ _ _ q0)
       have y1 : ((w1.setCell { block := w.heap.size, off := 0 } (Value.int IntKind.i64 g2)).setCell { block := w.heap.size, off := 1 } (Value.bool fr2)).cell? ⟨w.heap.size, 1, none⟩ = some (.bool fr2) := World.cell?_setCell_same _ _ _ ((World.cell?_setCell_other _ _ _ _ (by simp)).trans q1)
       have HX : Hid (Below w.heap.size w ((w1.setCell { block := w.heap.size, off := 0 } (Value.int IntKind.i64 g2)).setCell { block := w.heap.size, off := 1 } (Value.bool fr2))) := hide (bset (bset (unhide HW) ⟨w.heap.size, 0, none⟩ _ (Nat.le_refl _)) ⟨w.heap.size, 1, none⟩ _ (Nat.le_refl _))
       have HIX : Hid (Ints ((w1.setCell { block := w.heap.size, off := 0 } (Value.int IntKind.i64 g2)).setCell { block := w.heap.size, off := 1 } (Value.bool fr2)) (.slice au L.length cu) L) := hide (Ints.of_owns (owns_set (owns_set (unhide HI) ⟨w.heap.size, 0, none⟩ (Nat.lt_succ_self _) _) ⟨w.heap.size, 1, none⟩ (Nat.lt_succ_self _) _))
       have hBX : w.heap.size < ((w1.setCell { block := w.heap.size, off := 0 } (Value.int IntKind.i64 g2)).setCell { block := w.heap.size, off := 1 } (Value.bool fr2)).heap.size := World.block_lt_of_cell? _ _ y0
       generalize ((w1.setCell { block := w.heap.size, off := 0 } (Value.int IntKind.i64 g2)).setCell { block := w.heap.size, off := 1 } (Value.bool fr2)) = X at *
       have HCX := hide ((unhide HC).below ((unhide HX).mono hDs))
       have HOX := hide (owns_below (unhide HO) (unhide HX))
       have hne : (Value.slice ao xs.length cap).ownBlock ≠ some w.heap.size := fun h => by have h1 := owns_lt (unhide HO) _ h; have h2 := (unhide HW).size; omega
       have hzX := (unhide HX).size
       obtain ⟨d0, d1, d2, d3, d4, d5, k0, k1, k2, k3, k4, k5⟩ := unhide HCX
       go_wp2_with (at_builtin; refine append_keep rfl (.tmp 54) (.tmp 55) rfl (D + 1) _ xs rfl (unhide HOX) _ L rfl (unhide HIX) (by omega) (by omega) ?_)
       intro ao2 cap2 w2 ho2 hb2 hk2
       have HC2 := hide ((unhide HCX).below hb2)
       have HO2 : Hid (w2.ownsRow (D + 1) 3 1 (.slice ao2 (xs.length + L.length) cap2) (xs ++ L).length ((xs ++ L).map (Value.int .i64))) := hide (by simpa using ho2)
       have HB2 := hide (((unhide HX).mono (Nat.le_of_lt hDs)).trans (hb2.mono (Nat.le_succ D)))
       have z0 : w2.cell? ⟨w.heap.size, 0, none⟩ = some (.int .i64 g2) := (hk2 w.heap.size 0 hBX hne).trans y0
       have z1 : w2.cell? ⟨w.heap.size, 1, none⟩ = some (.bool fr2) := (hk2 w.heap.size 1 hBX hne).trans y1
       have hDB : D ≠ w.heap.size := by have h2 := (unhide HW).size; omega
       have hDB' : ¬ w.heap.size = D := fun h => hDB h.symm
       obtain ⟨i0, i1, i2, i3, i4, i5, j0, j1, j2, j3, j4, j5⟩ := unhide HC2
       have hD2 : D < w2.heap.size := World.block_lt_of_cell? w2 _ i0
       have hB2 : w.heap.size < w2.heap.size := World.block_lt_of_cell? w2 _ z0
       clear ho2 hb2 hk2 y0 y1 hne
       go_wp2_with fail
       go_region
       all_goals
         go_wp2_with fail
         go_end0
         refine ⟨rfl, ⟨_, by rw [unhide HE]; exact (((((unhide HC2).set5 _).set2 _).set3 _).below (below_drewN (Below.refl _ _) 1)), ?_⟩, below_drewN (bset (bset (bset (unhide HB2) ⟨D, 5, none⟩ _ (Nat.le_refl _)) ⟨D, 2, none⟩ _ (Nat.le_refl _)) ⟨D, 3, none⟩ _ (Nat.le_refl _)) 1⟩
         rw [unhide HE]
         exact owns_below (owns_set (owns_set (owns_set (unhide HO2) ⟨D, 5, none⟩ (Nat.lt_succ_self _) _) ⟨D, 2, none⟩ (Nat.lt_succ_self _) _) ⟨D, 3, none⟩ (Nat.lt_succ_self _) _) (below_drewN (Below.refl _ _) 1))
    | (skip
       have y0 : (w1.alloc (Obj.cells #[Value.int IntKind.i64 g2, Value.bool fr2] 165)).cell? ⟨w1.heap.size, 0, none⟩ = some (.int .i64 g2) := by simp [go_sem]
       have y1 : (w1.alloc (Obj.cells #[Value.int IntKind.i64 g2, Value.bool fr2] 165)).cell? ⟨w1.heap.size, 1, none⟩ = some (.bool fr2) := by simp [go_sem]
       have HX : Hid (Below w.heap.size w (w1.alloc (Obj.cells #[Value.int IntKind.i64 g2, Value.bool fr2] 165))) := hide (bstep (unhide HW) (balloc _ _))
       have HIX : Hid (Ints (w1.alloc (Obj.cells #[Value.int IntKind.i64 g2, Value.bool fr2] 165)) (.slice au L.length cu) L) := hide ((Ints.of_owns (unhide HI)).below (balloc _ _))
       have hBX : w1.heap.size < (w1.alloc (Obj.cells #[Value.int IntKind.i64 g2, Value.bool fr2] 165)).heap.size := by simp
       generalize w1.alloc (Obj.cells #[Value.int IntKind.i64 g2, Value.bool fr2] 165) = X at *
       have HCX := hide ((unhide HC).below ((unhide HX).mono hDs))
       have HOX := hide (owns_below (unhide HO) (unhide HX))
       have hne : (Value.slice ao xs.length cap).ownBlock ≠ some w1.heap.size := fun h => by have h1 := owns_lt (unhide HO) _ h; have h2 := (unhide HW).size; omega
       have hzX := (unhide HX).size
       obtain ⟨d0, d1, d2, d3, d4, d5, k0, k1, k2, k3, k4, k5⟩ := unhide HCX
       go_wp2_with (at_builtin; refine append_keep rfl (.tmp 54) (.tmp 55) rfl (D + 1) _ xs rfl (unhide HOX) _ L rfl (unhide HIX) (by omega) (by omega) ?_)
       intro ao2 cap2 w2 ho2 hb2 hk2
       have HC2 := hide ((unhide HCX).below hb2)
       have HO2 : Hid (w2.ownsRow (D + 1) 3 1 (.slice ao2 (xs.length + L.length) cap2) (xs ++ L).length ((xs ++ L).map (Value.int .i64))) := hide (by simpa using ho2)
       have HB2 := hide (((unhide HX).mono (Nat.le_of_lt hDs)).trans (hb2.mono (Nat.le_succ D)))
       have z0 : w2.cell? ⟨w1.heap.size, 0, none⟩ = some (.int .i64 g2) := (hk2 w1.heap.size 0 hBX hne).trans y0
       have z1 : w2.cell? ⟨w1.heap.size, 1, none⟩ = some (.bool fr2) := (hk2 w1.heap.size 1 hBX hne).trans y1
       have hDB : D ≠ w1.heap.size := by have h2 := (unhide HW).size; omega
       have hDB' : ¬ w1.heap.size = D := fun h => hDB h.symm
       obtain ⟨i0, i1, i2, i3, i4, i5, j0, j1, j2, j3, j4, j5⟩ := unhide HC2
       have hD2 : D < w2.heap.size := World.block_lt_of_cell? w2 _ i0
       have hB2 : w1.heap.size < w2.heap.size := World.block_lt_of_cell? w2 _ z0
       clear ho2 hb2 hk2 y0 y1 hne
       go_wp2_with fail
       go_region
       all_goals
         go_wp2_with fail
         go_end0
         refine ⟨rfl, ⟨_, by rw [unhide HE]; exact (((((unhide HC2).set5 _).set2 _).set3 _).below (below_drewN (Below.refl _ _) 1)), ?_⟩, below_drewN (bset (bset (bset (unhide HB2) ⟨D, 5, none⟩ _ (Nat.le_refl _)) ⟨D, 2, none⟩ _ (Nat.le_refl _)) ⟨D, 3, none⟩ _ (Nat.le_refl _)) 1⟩
         rw [unhide HE]
         exact owns_below (owns_set (owns_set (owns_set (unhide HO2) ⟨D, 5, none⟩ (Nat.lt_succ_self _) _) ⟨D, 2, none⟩ (Nat.lt_succ_self _) _) ⟨D, 3, none⟩ (Nat.lt_succ_self _) _) (below_drewN (Below.refl _ _) 1))
end Go.Proofs.YtaiinjfnkmidbaaGreatDoor

namespace Go.Proofs.YtaiinjfnkmidbaaGreatDoor
open Go.RowKit
set_option linter.unusedVariables false

theorem Dl.lt {D : Nat} {e : Int} {r : ByteArray} {t : M.St} {xs : List Int} {w : World} (h : Dl D e r t xs w) : D < w.heap.size := by
  obtain ⟨v, hC, _⟩ := h
  exact hC.lt
theorem Dl.below {D : Nat} {e : Int} {r : ByteArray} {t : M.St} {xs : List Int} {w w2 : World} (h : Dl D e r t xs w) (hb : Below w.heap.size w w2) : Dl D e r t xs w2 := by
  have hl := h.lt
  obtain ⟨v, hC, ho⟩ := h
  exact ⟨v, hC.below (hb.mono hl), owns_below ho hb⟩
theorem TE_5 {e : Int} (he : 1 ≤ e ∧ e ≤ 5) (t : M.St) (l : List Int) : M.TE e t l = (M.decE e l, t) := by
  obtain rfl | rfl | rfl | rfl | rfl : e = 1 ∨ e = 2 ∨ e = 3 ∨ e = 4 ∨ e = 5 := by omega
  · rw [M.TE_8, decE_1]
  · rw [decE_2, show (2 : Int) = (if false then 3 else 2) from rfl, M.TE_16]
  · rw [decE_3, show (3 : Int) = (if true then 3 else 2) from rfl, M.TE_16]
  · rw [decE_4, show (4 : Int) = (if false then 5 else 4) from rfl, M.TE_S]
  · rw [decE_5, show (5 : Int) = (if true then 5 else 4) from rfl, M.TE_S]
theorem dtell_any (D : Nat) (e : Int) (r : ByteArray) (t : M.St) (xs : List Int) (s : ByteArray) (w : World) (he : 1 ≤ e ∧ e ≤ 7) (hk : M.Sg t.1) (hs : s.size ≤ 3000) (hx : xs.length ≤ 20000) (hD : Dl D e r t xs w) :
    Calls Tryz.prog 162 #[.pointer (some ⟨D, 0, none⟩), .string s] w fun e' w' => e' = .returned (.tuple #[]) ∧ ToldD D e r t xs (bl s) w w' := by
  by_cases h5 : e ≤ 5
  · have hl := M.TE_few e _ t (bl s) (Nat.le_refl _)
    rw [TE_5 ⟨he.1, h5⟩, bl_len] at hl
    exact tell_plain D e r t xs s w ⟨he.1, h5⟩ hs hx (TE_5 ⟨he.1, h5⟩ t (bl s)) (Nat.le_trans hl hs) hD
  · obtain rfl | rfl : e = 6 ∨ e = 7 := by omega
    · exact tell_kana D r t xs s w hk (by omega) hx hD
    · cases ht : t.2.2
      · exact tell_stop D r t xs s w hx ht hD
      · exact tell_stopped D r t xs s w ht hD

/-- What take leaves: all is told but what waits. -/
def Taken (D : Nat) (e : Int) (t : M.St) (xs l : List Int) (w w' : World) : Prop :=
  ∃ r', bl r' = (M.RE e t l).2.2 ∧ Dl D e r' (M.RE e t l).2.1 (xs ++ (M.RE e t l).1) w' ∧ Below D w w'

set_option maxHeartbeats 1600000 in
set_option maxRecDepth 100000 in
theorem take_any (D : Nat) (e : Int) (r : ByteArray) (t : M.St) (xs : List Int) (p : ByteArray) (w : World) (he : 1 ≤ e ∧ e ≤ 7) (hk : M.Sg t.1) (hs : r.size + p.size ≤ 3000) (hx : xs.length ≤ 20000) (hD : Dl D e r t xs w) :
    Calls Tryz.prog 161 #[.pointer (some ⟨D, 0, none⟩), .string p] w fun e' w' => e' = .returned (.tuple #[]) ∧ Taken D e t xs (bl r ++ bl p) w w' := by
  have hsz : (r ++ p).size = r.size + p.size := by rw [← bl_len, bl_app, List.length_append, bl_len, bl_len]
  have hwb := M.wE_bd he (bl (r ++ p))
  rw [bl_len, hsz] at hwb
  have H := fun w => waits_any e (r ++ p) w he (by rw [hsz]; unfold maxLen; omega) (fun _ => by rw [hsz]; exact hs)
  have HT := M.TE_take he t (bl (r ++ p))
  have HR := M.RE_rest he t (bl (r ++ p))
  rw [bl_len, hsz] at HT HR
  rw [← bl_app]
  obtain ⟨n, hn⟩ : ∃ n : Nat, M.wE e (bl (r ++ p)) = n := ⟨(M.wE e (bl (r ++ p))).toNat, by omega⟩
  rw [hn] at H hwb HT HR
  rw [Int.toNat_natCast] at HT HR
  obtain ⟨k, hkk⟩ : ∃ k : Nat, r.size + p.size = k + n := ⟨r.size + p.size - n, by omega⟩
  rw [hkk, Nat.add_sub_cancel] at HT HR
  have hk3 : k ≤ 3000 := by omega
  have hn3 : n ≤ 3 := by omega
  obtain ⟨q, HQ⟩ : ∃ q, Hid (r ++ p = q) := ⟨_, hide rfl⟩
  have hqs : q.size = k + n := by rw [← unhide HQ, hsz, hkk]
  have HT1 : Hid (M.TE e t (bl (q.extract 0 k)) = ((M.RE e t (bl q)).1, (M.RE e t (bl q)).2.1)) := hide (by rw [bl_take, ← unhide HQ]; exact HT)
  have HR1 : Hid (bl (q.extract k q.size) = (M.RE e t (bl q)).2.2) := hide (by rw [bl_extract, ← unhide HQ]; exact HR.symm)
  rw [unhide HQ] at H
  rw [unhide HQ]
  have hrp : r.size + p.size ≤ 3000 := hs
  have HD := hide hD
  have hDs := hD.lt
  obtain ⟨v, hC, ho⟩ := hD
  obtain ⟨c0, c1, c2, c3, c4, c5, f0, f1, f2, f3, f4, f5⟩ := hC
  have hqk : (q.size : Int) - (n : Int) = (k : Int) := by omega
  have HQS := hide hqs
  have hr0 : r.size ≤ 3000 := by omega
  have hp0 : p.size ≤ 3000 := by omega
  have hcat := unhide HQ
  clear hsz hwb HT HR hn hkk hqs ho hs
  go_enter Tryz.func161, Tryz.ntmps161
  go_wp2_with fail
  refine (H _).mono ?_
  rintro e' w1 ⟨rfl, hb1⟩
  have HD1 := hide ((unhide HD).below hb1)
  have HB1 := hide hb1
  have hkq : k ≤ q.size := by have := unhide HQS; omega
  clear hb1 H hcat
  go_wp2_with fail
  refine (dtell_any D e r t xs (q.extract 0 k) _ he hk (by have := unhide HQS; simp; omega) hx (unhide HD1)).mono ?_
  rintro e' w2 ⟨rfl, hD2, hb2⟩
  rw [unhide HT1] at hD2
  have HD2 := hide hD2
  have HB2 := hide (((unhide HB1).mono (Nat.le_of_lt hDs)).trans hb2)
  clear hD2 hb2
  have hcl : (q.extract k q.size).size ≤ 3000 := by have := unhide HQS; simp; omega
  go_wp2_with fail
  refine (clone_any (q.extract k q.size) _ (Nat.le_trans hcl (by decide))).mono ?_
  rintro e' w3 ⟨rfl, hb3⟩
  have HD3 := hide ((unhide HD2).below hb3)
  have HB3 := hide ((unhide HB2).trans (hb3.mono (Nat.le_of_lt (unhide HD2).lt)))
  obtain ⟨v3, hC3, ho3⟩ := unhide HD3
  have HC3 := hide hC3
  have HO3 := hide ho3
  obtain ⟨d0, d1, d2, d3, d4, d5, k0, k1, k2, k3, k4, k5⟩ := hC3
  have hD3 : D < w3.heap.size := World.block_lt_of_cell? w3 _ d0
  clear hb3 ho3
  generalize q.extract k q.size = z at *
  go_wp2_with fail
  go_end0
  exact ⟨rfl, z, unhide HR1, ⟨v3, (unhide HC3).set1 z, owns_set (unhide HO3) ⟨D, 1, none⟩ (Nat.lt_succ_self _) _⟩, bset (unhide HB3) ⟨D, 1, none⟩ _ (Nat.le_refl _)⟩

theorem Taken.app {D : Nat} {e : Int} {t : M.St} {xs l m : List Int} {w w1 w2 : World} (h1 : Below D w w1) (h2 : Taken D e (M.RE e t l).2.1 (xs ++ (M.RE e t l).1) ((M.RE e t l).2.2 ++ m) w1 w2) : Taken D e t xs (l ++ m) w w2 := by
  obtain ⟨r', e1, e2, e3⟩ := h2
  refine ⟨r', ?_, ?_, h1.trans e3⟩
  · rw [M.RE_app]; exact e1
  · rw [M.RE_app]; rw [List.append_assoc] at e2; exact e2

set_option maxHeartbeats 1600000 in
set_option maxRecDepth 100000 in
theorem feed_short (D : Nat) (e : Int) (r : ByteArray) (t : M.St) (xs : List Int) (p : ByteArray) (w : World) (he : 1 ≤ e ∧ e ≤ 7) (hk : M.Sg t.1) (hr : r.size ≤ 3) (hs : p.size ≤ 2997) (hx : xs.length ≤ 10000) (hD : Dl D e r t xs w) :
    Calls Tryz.prog 100 #[.pointer (some ⟨D, 0, none⟩), .string p] w fun e' w' => e' = .returned (.tuple #[]) ∧ Taken D e t xs (bl r ++ bl p) w w' := by
  have H := take_any D e r t xs p w he hk (by omega) (by omega) hD
  go_enter Tryz.func100, Tryz.ntmps100
  go_wp2_with fail
  refine wp_loop_rounds 1 ?_
  rw [rounds_succ]
  go_wp2_with fail
  refine H.mono ?_
  rintro e' w1 ⟨rfl, hT⟩
  have HT := hide hT
  clear hT H
  go_wp2_with fail
  go_end0
  exact ⟨rfl, unhide HT⟩
set_option maxHeartbeats 1600000 in
set_option maxRecDepth 100000 in
theorem feed_great (D : Nat) (e : Int) (r : ByteArray) (t : M.St) (xs : List Int) (p : ByteArray) (w : World) (he : 1 ≤ e ∧ e ≤ 7) (hk : M.Ok e t) (hr : r.size ≤ 3) (hs : 2997 < p.size) (hs2 : p.size ≤ 3000) (hx : xs.length ≤ 10000) (hD : Dl D e r t xs w) :
    Calls Tryz.prog 100 #[.pointer (some ⟨D, 0, none⟩), .string p] w fun e' w' => e' = .returned (.tuple #[]) ∧ Taken D e t xs (bl r ++ bl p) w w' := by
  have H1 := take_any D e r t xs (p.extract 0 2997) w he hk.1 (by simp; omega) (by omega) hD
  have hO := M.Ok_run he hk (bl r ++ bl (p.extract 0 2997))
  have hF := M.RE_few he t (bl r ++ bl (p.extract 0 2997))
  have hL := M.RE_out he t (bl r ++ bl (p.extract 0 2997))
  rw [List.length_append, bl_len, bl_len] at hL
  have hz1 : (p.extract 0 2997).size = 2997 := by simp; omega
  have hz2 : (p.extract 2997 p.size).size ≤ 3 := by simp; omega
  rw [hz1] at hL
  have HS : Hid (bl r ++ bl p = (bl r ++ bl (p.extract 0 2997)) ++ bl (p.extract 2997 p.size)) := hide (by rw [bl_take, bl_extract, List.append_assoc, List.take_append_drop])
  have HG : Hid (∀ w1 w2, Below D w w1 → Taken D e (M.RE e t (bl r ++ bl (p.extract 0 2997))).2.1 (xs ++ (M.RE e t (bl r ++ bl (p.extract 0 2997))).1) ((M.RE e t (bl r ++ bl (p.extract 0 2997))).2.2 ++ bl (p.extract 2997 p.size)) w1 w2 → Taken D e t xs (bl r ++ bl p) w w2) := hide (fun w1 w2 h1 h2 => by
    rw [unhide HS]; exact Taken.app h1 h2)
  generalize hRE : M.RE e t (bl r ++ bl (p.extract 0 2997)) = R at *
  have hz3 : (p.extract 2997 p.size).size ≤ 2997 := by omega
  obtain ⟨b, HBq⟩ : ∃ b, Hid (p.extract 2997 p.size = b) := ⟨_, hide rfl⟩
  rw [unhide HBq] at hz2 hz3 HG
  have hbq := unhide HBq
  have hb0 : b.size ≤ 3 := hz2
  go_enter Tryz.func100, Tryz.ntmps100
  go_wp2_with fail
  refine wp_loop_rounds 2 ?_
  rw [rounds_succ]
  go_wp2_with fail
  refine H1.mono ?_
  rintro e' w1 ⟨rfl, r', hr', hD1, hB1⟩
  rw [hRE] at hr' hD1
  have hr3 : r'.size ≤ 3 := by rw [← bl_len, hr']; exact hF
  have H2 := take_any D e r' R.2.1 (xs ++ R.1) b w1 he hO.1 (by omega) (by simp; omega) hD1
  rw [hr'] at H2
  have HB1 := hide hB1
  clear H1 hD1 hB1
  go_wp2_with fail
  rw [rounds_succ]
  go_wp2_with fail
  refine H2.mono ?_
  rintro e' w2 ⟨rfl, hT⟩
  have HT := hide (unhide HG w1 w2 (unhide HB1) hT)
  clear hT H2
  go_wp2_with fail
  go_end0
  exact ⟨rfl, unhide HT⟩

set_option maxHeartbeats 1600000 in
set_option maxRecDepth 100000 in
theorem end_any (D : Nat) (e : Int) (r : ByteArray) (t : M.St) (xs : List Int) (w : World) (he : 1 ≤ e ∧ e ≤ 7) (hk : M.Sg t.1) (hr : r.size ≤ 3) (hx : xs.length ≤ 20000) (hD : Dl D e r t xs w) :
    Calls Tryz.prog 101 #[.pointer (some ⟨D, 0, none⟩)] w fun e' w' => e' = .returned (.tuple #[]) ∧ Dl D e ⟨#[]⟩ M.st0 (xs ++ (M.TE e t (bl r)).1) w' ∧ Below D w w' := by
  have H := dtell_any D e r t xs r w he hk (by omega) hx hD
  have hDs := hD.lt
  obtain ⟨v, hC, ho⟩ := hD
  obtain ⟨c0, c1, c2, c3, c4, c5, f0, f1, f2, f3, f4, f5⟩ := hC
  clear ho
  go_enter Tryz.func101, Tryz.ntmps101
  go_wp2_with fail
  refine H.mono ?_
  rintro e' w1 ⟨rfl, hD1, hB1⟩
  have HB1 := hide hB1
  obtain ⟨v1, hC1, ho1⟩ := hD1
  have HC1 := hide hC1
  have HO1 := hide ho1
  generalize (M.TE e t (bl r)).2 = t1 at *
  obtain ⟨d0, d1, d2, d3, d4, d5, k0, k1, k2, k3, k4, k5⟩ := hC1
  have hD1 : D < w1.heap.size := World.block_lt_of_cell? w1 _ d0
  clear H hB1 ho1
  go_wp2_with fail
  go_end0
  refine ⟨rfl, ⟨v1, ?_, ?_⟩, ?_⟩
  · exact (((((unhide HC1).set0 e).set1 ⟨#[]⟩).set2 0).set3 false).set4 false
  · exact owns_set (owns_set (owns_set (owns_set (owns_set (unhide HO1) ⟨D, 0, none⟩ (Nat.lt_succ_self _) _) ⟨D, 1, none⟩ (Nat.lt_succ_self _) _) ⟨D, 2, none⟩ (Nat.lt_succ_self _) _) ⟨D, 3, none⟩ (Nat.lt_succ_self _) _) ⟨D, 4, none⟩ (Nat.lt_succ_self _) _
  · exact bset (bset (bset (bset (bset (unhide HB1) ⟨D, 0, none⟩ _ (Nat.le_refl _)) ⟨D, 1, none⟩ _ (Nat.le_refl _)) ⟨D, 2, none⟩ _ (Nat.le_refl _)) ⟨D, 3, none⟩ _ (Nat.le_refl _)) ⟨D, 4, none⟩ _ (Nat.le_refl _)
end Go.Proofs.YtaiinjfnkmidbaaGreatDoor

namespace Go.Proofs.YtaiinjfnkmidbaaGreatDoor
open Go.RowKit
set_option linter.unusedVariables false

/-- A state as a value. -/
def sv (e : Int) (r : ByteArray) (t : M.St) : Value := .agg #[.int .i64 e, .string r, .int .i64 t.1, .bool t.2.1, .bool t.2.2]

set_option maxHeartbeats 800000 in
set_option maxRecDepth 100000 in
theorem check_kind (e : Int) (r : ByteArray) (g : Int) (fr st : Bool) (w : World) (he : ¬ (1 ≤ e ∧ e ≤ 7)) :
    Calls Tryz.prog 60 #[.agg #[.int .i64 e, .string r, .int .i64 g, .bool fr, .bool st]] w fun e' w' => e' = .returned (.int .i64 6) ∧ Below w.heap.size w w' := by
  have H := fun w => kind_no e w he
  go_enter Tryz.func60, Tryz.ntmps60
  go_wp2_with fail
  refine (H _).mono ?_
  rintro e' w1 ⟨rfl, hb⟩
  have HB := hide (bstep (balloc _ _) hb)
  clear hb H
  go_wp2_with fail
  go_ret
  exact ⟨rfl, unhide HB⟩

set_option maxHeartbeats 1600000 in
set_option maxRecDepth 100000 in
theorem check_form (e : Int) (r : ByteArray) (g : Int) (fr st : Bool) (w : World) (n : Int) (hm : r.size ≤ maxLen) (he : 1 ≤ e ∧ e ≤ 7) (HW : ∀ w : World, Calls Tryz.prog 121 #[.int .i64 e, .string r] w fun e' w' => e' = .returned (.int .i64 n) ∧ Below w.heap.size w w') (hn : (n != (r.size : Int)) = true) :
    Calls Tryz.prog 60 #[.agg #[.int .i64 e, .string r, .int .i64 g, .bool fr, .bool st]] w fun e' w' => e' = .returned (.int .i64 1) ∧ Below w.heap.size w w' := by
  have H := fun w => kind_yes e w he
  unfold maxLen at hm
  go_enter Tryz.func60, Tryz.ntmps60
  go_wp2_with fail
  refine (H _).mono ?_
  rintro e' w1 ⟨rfl, hb1⟩
  have HB1 := hide (bstep (balloc _ _) hb1)
  have c0 : w1.cell? ⟨w.heap.size, 0, none⟩ = some (.int .i64 e) := (hb1.cell (p := ⟨w.heap.size, 0, none⟩) (by simp)).trans (by simp [go_sem])
  have c1 : w1.cell? ⟨w.heap.size, 1, none⟩ = some (.string r) := (hb1.cell (p := ⟨w.heap.size, 1, none⟩) (by simp)).trans (by simp [go_sem])
  have c2 : w1.cell? ⟨w.heap.size, 2, none⟩ = some (.int .i64 g) := (hb1.cell (p := ⟨w.heap.size, 2, none⟩) (by simp)).trans (by simp [go_sem])
  have c3 : w1.cell? ⟨w.heap.size, 3, none⟩ = some (.bool fr) := (hb1.cell (p := ⟨w.heap.size, 3, none⟩) (by simp)).trans (by simp [go_sem])
  have c4 : w1.cell? ⟨w.heap.size, 4, none⟩ = some (.bool st) := (hb1.cell (p := ⟨w.heap.size, 4, none⟩) (by simp)).trans (by simp [go_sem])
  have hlt : w.heap.size < w1.heap.size := World.block_lt_of_cell? w1 _ c0
  clear hb1 H
  go_wp2_with fail
  go_region_held3 (fun w' => w'.cell? ⟨w.heap.size, 0, none⟩ = some (.int .i64 e) ∧ w'.cell? ⟨w.heap.size, 1, none⟩ = some (.string r))
    (first | go_keep | (go_split_ands; refine ⟨(hb2.cell (p := ⟨w.heap.size, 0, none⟩) hlt).trans c0, (hb2.cell (p := ⟨w.heap.size, 1, none⟩) hlt).trans c1⟩))
    ((go_at_call 121; refine (HW _).mono ?_; rintro e' w2 ⟨rfl, hb2⟩))
  have HB2 := hide (bstep (unhide HB1) ((below_drewN (Below.refl _ w1) 1).trans hb2))
  have d0 : w2.cell? ⟨w.heap.size, 0, none⟩ = some (.int .i64 e) := (hb2.cell (p := ⟨w.heap.size, 0, none⟩) hlt).trans c0
  have d1 : w2.cell? ⟨w.heap.size, 1, none⟩ = some (.string r) := (hb2.cell (p := ⟨w.heap.size, 1, none⟩) hlt).trans c1
  have d2 : w2.cell? ⟨w.heap.size, 2, none⟩ = some (.int .i64 g) := (hb2.cell (p := ⟨w.heap.size, 2, none⟩) hlt).trans c2
  have d3 : w2.cell? ⟨w.heap.size, 3, none⟩ = some (.bool fr) := (hb2.cell (p := ⟨w.heap.size, 3, none⟩) hlt).trans c3
  have d4 : w2.cell? ⟨w.heap.size, 4, none⟩ = some (.bool st) := (hb2.cell (p := ⟨w.heap.size, 4, none⟩) hlt).trans c4
  have hlt2 : w.heap.size < w2.heap.size := World.block_lt_of_cell? w2 _ d0
  clear hb2
  go_wp2_with fail
  go_ret
  exact ⟨rfl, unhide HB2⟩

set_option maxHeartbeats 1600000 in
set_option maxRecDepth 100000 in
theorem check_low (e : Int) (r : ByteArray) (g : Int) (fr st : Bool) (w : World) (n : Int) (hm : r.size ≤ maxLen) (he : 1 ≤ e ∧ e ≤ 7) (HW : ∀ w : World, Calls Tryz.prog 121 #[.int .i64 e, .string r] w fun e' w' => e' = .returned (.int .i64 n) ∧ Below w.heap.size w w') (hn : (n != (r.size : Int)) = false) (hg : g < 0) :
    Calls Tryz.prog 60 #[.agg #[.int .i64 e, .string r, .int .i64 g, .bool fr, .bool st]] w fun e' w' => e' = .returned (.int .i64 4) ∧ Below w.heap.size w w' := by
  have H := fun w => kind_yes e w he
  unfold maxLen at hm
  go_enter Tryz.func60, Tryz.ntmps60
  go_wp2_with fail
  refine (H _).mono ?_
  rintro e' w1 ⟨rfl, hb1⟩
  have HB1 := hide (bstep (balloc _ _) hb1)
  have c0 : w1.cell? ⟨w.heap.size, 0, none⟩ = some (.int .i64 e) := (hb1.cell (p := ⟨w.heap.size, 0, none⟩) (by simp)).trans (by simp [go_sem])
  have c1 : w1.cell? ⟨w.heap.size, 1, none⟩ = some (.string r) := (hb1.cell (p := ⟨w.heap.size, 1, none⟩) (by simp)).trans (by simp [go_sem])
  have c2 : w1.cell? ⟨w.heap.size, 2, none⟩ = some (.int .i64 g) := (hb1.cell (p := ⟨w.heap.size, 2, none⟩) (by simp)).trans (by simp [go_sem])
  have c3 : w1.cell? ⟨w.heap.size, 3, none⟩ = some (.bool fr) := (hb1.cell (p := ⟨w.heap.size, 3, none⟩) (by simp)).trans (by simp [go_sem])
  have c4 : w1.cell? ⟨w.heap.size, 4, none⟩ = some (.bool st) := (hb1.cell (p := ⟨w.heap.size, 4, none⟩) (by simp)).trans (by simp [go_sem])
  have hlt : w.heap.size < w1.heap.size := World.block_lt_of_cell? w1 _ c0
  clear hb1 H
  go_wp2_with fail
  go_region_held3 (fun w' => w'.cell? ⟨w.heap.size, 0, none⟩ = some (.int .i64 e) ∧ w'.cell? ⟨w.heap.size, 1, none⟩ = some (.string r))
    (first | go_keep | (go_split_ands; refine ⟨(hb2.cell (p := ⟨w.heap.size, 0, none⟩) hlt).trans c0, (hb2.cell (p := ⟨w.heap.size, 1, none⟩) hlt).trans c1⟩))
    ((go_at_call 121; refine (HW _).mono ?_; rintro e' w2 ⟨rfl, hb2⟩))
  have HB2 := hide (bstep (unhide HB1) ((below_drewN (Below.refl _ w1) 1).trans hb2))
  have d0 : w2.cell? ⟨w.heap.size, 0, none⟩ = some (.int .i64 e) := (hb2.cell (p := ⟨w.heap.size, 0, none⟩) hlt).trans c0
  have d1 : w2.cell? ⟨w.heap.size, 1, none⟩ = some (.string r) := (hb2.cell (p := ⟨w.heap.size, 1, none⟩) hlt).trans c1
  have d2 : w2.cell? ⟨w.heap.size, 2, none⟩ = some (.int .i64 g) := (hb2.cell (p := ⟨w.heap.size, 2, none⟩) hlt).trans c2
  have d3 : w2.cell? ⟨w.heap.size, 3, none⟩ = some (.bool fr) := (hb2.cell (p := ⟨w.heap.size, 3, none⟩) hlt).trans c3
  have d4 : w2.cell? ⟨w.heap.size, 4, none⟩ = some (.bool st) := (hb2.cell (p := ⟨w.heap.size, 4, none⟩) hlt).trans c4
  have hlt2 : w.heap.size < w2.heap.size := World.block_lt_of_cell? w2 _ d0
  clear hb2
  go_wp2_with fail
  go_ret
  exact ⟨rfl, unhide HB2⟩

set_option maxHeartbeats 1600000 in
set_option maxRecDepth 100000 in
theorem check_high (e : Int) (r : ByteArray) (g : Int) (fr st : Bool) (w : World) (n : Int) (hm : r.size ≤ maxLen) (he : 1 ≤ e ∧ e ≤ 7) (HW : ∀ w : World, Calls Tryz.prog 121 #[.int .i64 e, .string r] w fun e' w' => e' = .returned (.int .i64 n) ∧ Below w.heap.size w w') (hn : (n != (r.size : Int)) = false) (hg : 2 < g) :
    Calls Tryz.prog 60 #[.agg #[.int .i64 e, .string r, .int .i64 g, .bool fr, .bool st]] w fun e' w' => e' = .returned (.int .i64 4) ∧ Below w.heap.size w w' := by
  have H := fun w => kind_yes e w he
  unfold maxLen at hm
  go_enter Tryz.func60, Tryz.ntmps60
  go_wp2_with fail
  refine (H _).mono ?_
  rintro e' w1 ⟨rfl, hb1⟩
  have HB1 := hide (bstep (balloc _ _) hb1)
  have c0 : w1.cell? ⟨w.heap.size, 0, none⟩ = some (.int .i64 e) := (hb1.cell (p := ⟨w.heap.size, 0, none⟩) (by simp)).trans (by simp [go_sem])
  have c1 : w1.cell? ⟨w.heap.size, 1, none⟩ = some (.string r) := (hb1.cell (p := ⟨w.heap.size, 1, none⟩) (by simp)).trans (by simp [go_sem])
  have c2 : w1.cell? ⟨w.heap.size, 2, none⟩ = some (.int .i64 g) := (hb1.cell (p := ⟨w.heap.size, 2, none⟩) (by simp)).trans (by simp [go_sem])
  have c3 : w1.cell? ⟨w.heap.size, 3, none⟩ = some (.bool fr) := (hb1.cell (p := ⟨w.heap.size, 3, none⟩) (by simp)).trans (by simp [go_sem])
  have c4 : w1.cell? ⟨w.heap.size, 4, none⟩ = some (.bool st) := (hb1.cell (p := ⟨w.heap.size, 4, none⟩) (by simp)).trans (by simp [go_sem])
  have hlt : w.heap.size < w1.heap.size := World.block_lt_of_cell? w1 _ c0
  clear hb1 H
  go_wp2_with fail
  go_region_held3 (fun w' => w'.cell? ⟨w.heap.size, 0, none⟩ = some (.int .i64 e) ∧ w'.cell? ⟨w.heap.size, 1, none⟩ = some (.string r))
    (first | go_keep | (go_split_ands; refine ⟨(hb2.cell (p := ⟨w.heap.size, 0, none⟩) hlt).trans c0, (hb2.cell (p := ⟨w.heap.size, 1, none⟩) hlt).trans c1⟩))
    ((go_at_call 121; refine (HW _).mono ?_; rintro e' w2 ⟨rfl, hb2⟩))
  have HB2 := hide (bstep (unhide HB1) ((below_drewN (Below.refl _ w1) 1).trans hb2))
  have d0 : w2.cell? ⟨w.heap.size, 0, none⟩ = some (.int .i64 e) := (hb2.cell (p := ⟨w.heap.size, 0, none⟩) hlt).trans c0
  have d1 : w2.cell? ⟨w.heap.size, 1, none⟩ = some (.string r) := (hb2.cell (p := ⟨w.heap.size, 1, none⟩) hlt).trans c1
  have d2 : w2.cell? ⟨w.heap.size, 2, none⟩ = some (.int .i64 g) := (hb2.cell (p := ⟨w.heap.size, 2, none⟩) hlt).trans c2
  have d3 : w2.cell? ⟨w.heap.size, 3, none⟩ = some (.bool fr) := (hb2.cell (p := ⟨w.heap.size, 3, none⟩) hlt).trans c3
  have d4 : w2.cell? ⟨w.heap.size, 4, none⟩ = some (.bool st) := (hb2.cell (p := ⟨w.heap.size, 4, none⟩) hlt).trans c4
  have hlt2 : w.heap.size < w2.heap.size := World.block_lt_of_cell? w2 _ d0
  clear hb2
  go_wp2_with fail
  go_ret
  exact ⟨rfl, unhide HB2⟩

set_option maxHeartbeats 1600000 in
set_option maxRecDepth 100000 in
theorem check_signs (e : Int) (r : ByteArray) (g : Int) (fr st : Bool) (w : World) (n : Int) (hm : r.size ≤ maxLen) (he : 1 ≤ e ∧ e ≤ 7) (HW : ∀ w : World, Calls Tryz.prog 121 #[.int .i64 e, .string r] w fun e' w' => e' = .returned (.int .i64 n) ∧ Below w.heap.size w w') (hn : (n != (r.size : Int)) = false) (hg0 : 0 ≤ g) (hg2 : g ≤ 2) (h6 : (e != 6) = true) (hg : (g != 0) = true) :
    Calls Tryz.prog 60 #[.agg #[.int .i64 e, .string r, .int .i64 g, .bool fr, .bool st]] w fun e' w' => e' = .returned (.int .i64 4) ∧ Below w.heap.size w w' := by
  have H := fun w => kind_yes e w he
  unfold maxLen at hm
  go_enter Tryz.func60, Tryz.ntmps60
  go_wp2_with fail
  refine (H _).mono ?_
  rintro e' w1 ⟨rfl, hb1⟩
  have HB1 := hide (bstep (balloc _ _) hb1)
  have c0 : w1.cell? ⟨w.heap.size, 0, none⟩ = some (.int .i64 e) := (hb1.cell (p := ⟨w.heap.size, 0, none⟩) (by simp)).trans (by simp [go_sem])
  have c1 : w1.cell? ⟨w.heap.size, 1, none⟩ = some (.string r) := (hb1.cell (p := ⟨w.heap.size, 1, none⟩) (by simp)).trans (by simp [go_sem])
  have c2 : w1.cell? ⟨w.heap.size, 2, none⟩ = some (.int .i64 g) := (hb1.cell (p := ⟨w.heap.size, 2, none⟩) (by simp)).trans (by simp [go_sem])
  have c3 : w1.cell? ⟨w.heap.size, 3, none⟩ = some (.bool fr) := (hb1.cell (p := ⟨w.heap.size, 3, none⟩) (by simp)).trans (by simp [go_sem])
  have c4 : w1.cell? ⟨w.heap.size, 4, none⟩ = some (.bool st) := (hb1.cell (p := ⟨w.heap.size, 4, none⟩) (by simp)).trans (by simp [go_sem])
  have hlt : w.heap.size < w1.heap.size := World.block_lt_of_cell? w1 _ c0
  clear hb1 H
  go_wp2_with fail
  go_region_held3 (fun w' => w'.cell? ⟨w.heap.size, 0, none⟩ = some (.int .i64 e) ∧ w'.cell? ⟨w.heap.size, 1, none⟩ = some (.string r))
    (first | go_keep | (go_split_ands; refine ⟨(hb2.cell (p := ⟨w.heap.size, 0, none⟩) hlt).trans c0, (hb2.cell (p := ⟨w.heap.size, 1, none⟩) hlt).trans c1⟩))
    ((go_at_call 121; refine (HW _).mono ?_; rintro e' w2 ⟨rfl, hb2⟩))
  have HB2 := hide (bstep (unhide HB1) ((below_drewN (Below.refl _ w1) 1).trans hb2))
  have d0 : w2.cell? ⟨w.heap.size, 0, none⟩ = some (.int .i64 e) := (hb2.cell (p := ⟨w.heap.size, 0, none⟩) hlt).trans c0
  have d1 : w2.cell? ⟨w.heap.size, 1, none⟩ = some (.string r) := (hb2.cell (p := ⟨w.heap.size, 1, none⟩) hlt).trans c1
  have d2 : w2.cell? ⟨w.heap.size, 2, none⟩ = some (.int .i64 g) := (hb2.cell (p := ⟨w.heap.size, 2, none⟩) hlt).trans c2
  have d3 : w2.cell? ⟨w.heap.size, 3, none⟩ = some (.bool fr) := (hb2.cell (p := ⟨w.heap.size, 3, none⟩) hlt).trans c3
  have d4 : w2.cell? ⟨w.heap.size, 4, none⟩ = some (.bool st) := (hb2.cell (p := ⟨w.heap.size, 4, none⟩) hlt).trans c4
  have hlt2 : w.heap.size < w2.heap.size := World.block_lt_of_cell? w2 _ d0
  clear hb2
  go_wp2_with fail
  go_ret
  exact ⟨rfl, unhide HB2⟩

set_option maxHeartbeats 1600000 in
set_option maxRecDepth 100000 in
theorem check_fresh (e : Int) (r : ByteArray) (g : Int) (fr st : Bool) (w : World) (n : Int) (hm : r.size ≤ maxLen) (he : 1 ≤ e ∧ e ≤ 7) (HW : ∀ w : World, Calls Tryz.prog 121 #[.int .i64 e, .string r] w fun e' w' => e' = .returned (.int .i64 n) ∧ Below w.heap.size w w') (hn : (n != (r.size : Int)) = false) (h6 : (e != 6) = true) (hg : g = 0) (hf : fr = true) :
    Calls Tryz.prog 60 #[.agg #[.int .i64 e, .string r, .int .i64 g, .bool fr, .bool st]] w fun e' w' => e' = .returned (.int .i64 4) ∧ Below w.heap.size w w' := by
  have H := fun w => kind_yes e w he
  unfold maxLen at hm
  subst hg hf
  go_enter Tryz.func60, Tryz.ntmps60
  go_wp2_with fail
  refine (H _).mono ?_
  rintro e' w1 ⟨rfl, hb1⟩
  have HB1 := hide (bstep (balloc _ _) hb1)
  have c0 : w1.cell? ⟨w.heap.size, 0, none⟩ = some (.int .i64 e) := (hb1.cell (p := ⟨w.heap.size, 0, none⟩) (by simp)).trans (by simp [go_sem])
  have c1 : w1.cell? ⟨w.heap.size, 1, none⟩ = some (.string r) := (hb1.cell (p := ⟨w.heap.size, 1, none⟩) (by simp)).trans (by simp [go_sem])
  have c2 : w1.cell? ⟨w.heap.size, 2, none⟩ = some (.int .i64 0) := (hb1.cell (p := ⟨w.heap.size, 2, none⟩) (by simp)).trans (by simp [go_sem])
  have c3 : w1.cell? ⟨w.heap.size, 3, none⟩ = some (.bool true) := (hb1.cell (p := ⟨w.heap.size, 3, none⟩) (by simp)).trans (by simp [go_sem])
  have c4 : w1.cell? ⟨w.heap.size, 4, none⟩ = some (.bool st) := (hb1.cell (p := ⟨w.heap.size, 4, none⟩) (by simp)).trans (by simp [go_sem])
  have hlt : w.heap.size < w1.heap.size := World.block_lt_of_cell? w1 _ c0
  clear hb1 H
  go_wp2_with fail
  go_region_held3 (fun w' => w'.cell? ⟨w.heap.size, 0, none⟩ = some (.int .i64 e) ∧ w'.cell? ⟨w.heap.size, 1, none⟩ = some (.string r))
    (first | go_keep | (go_split_ands; refine ⟨(hb2.cell (p := ⟨w.heap.size, 0, none⟩) hlt).trans c0, (hb2.cell (p := ⟨w.heap.size, 1, none⟩) hlt).trans c1⟩))
    ((go_at_call 121; refine (HW _).mono ?_; rintro e' w2 ⟨rfl, hb2⟩))
  have HB2 := hide (bstep (unhide HB1) ((below_drewN (Below.refl _ w1) 1).trans hb2))
  have d0 : w2.cell? ⟨w.heap.size, 0, none⟩ = some (.int .i64 e) := (hb2.cell (p := ⟨w.heap.size, 0, none⟩) hlt).trans c0
  have d1 : w2.cell? ⟨w.heap.size, 1, none⟩ = some (.string r) := (hb2.cell (p := ⟨w.heap.size, 1, none⟩) hlt).trans c1
  have d2 : w2.cell? ⟨w.heap.size, 2, none⟩ = some (.int .i64 0) := (hb2.cell (p := ⟨w.heap.size, 2, none⟩) hlt).trans c2
  have d3 : w2.cell? ⟨w.heap.size, 3, none⟩ = some (.bool true) := (hb2.cell (p := ⟨w.heap.size, 3, none⟩) hlt).trans c3
  have d4 : w2.cell? ⟨w.heap.size, 4, none⟩ = some (.bool st) := (hb2.cell (p := ⟨w.heap.size, 4, none⟩) hlt).trans c4
  have hlt2 : w.heap.size < w2.heap.size := World.block_lt_of_cell? w2 _ d0
  clear hb2
  go_wp2_with fail
  go_ret
  exact ⟨rfl, unhide HB2⟩

set_option maxHeartbeats 1600000 in
set_option maxRecDepth 100000 in
theorem check_stopk (e : Int) (r : ByteArray) (g : Int) (fr st : Bool) (w : World) (n : Int) (hm : r.size ≤ maxLen) (he : 1 ≤ e ∧ e ≤ 7) (HW : ∀ w : World, Calls Tryz.prog 121 #[.int .i64 e, .string r] w fun e' w' => e' = .returned (.int .i64 n) ∧ Below w.heap.size w w') (hn : (n != (r.size : Int)) = false) (h6 : e = 6) (hg0 : 0 ≤ g) (hg2 : g ≤ 2) (hs : st = true) :
    Calls Tryz.prog 60 #[.agg #[.int .i64 e, .string r, .int .i64 g, .bool fr, .bool st]] w fun e' w' => e' = .returned (.int .i64 4) ∧ Below w.heap.size w w' := by
  have H := fun w => kind_yes e w he
  unfold maxLen at hm
  subst h6 hs
  go_enter Tryz.func60, Tryz.ntmps60
  go_wp2_with fail
  refine (H _).mono ?_
  rintro e' w1 ⟨rfl, hb1⟩
  have HB1 := hide (bstep (balloc _ _) hb1)
  have c0 : w1.cell? ⟨w.heap.size, 0, none⟩ = some (.int .i64 6) := (hb1.cell (p := ⟨w.heap.size, 0, none⟩) (by simp)).trans (by simp [go_sem])
  have c1 : w1.cell? ⟨w.heap.size, 1, none⟩ = some (.string r) := (hb1.cell (p := ⟨w.heap.size, 1, none⟩) (by simp)).trans (by simp [go_sem])
  have c2 : w1.cell? ⟨w.heap.size, 2, none⟩ = some (.int .i64 g) := (hb1.cell (p := ⟨w.heap.size, 2, none⟩) (by simp)).trans (by simp [go_sem])
  have c3 : w1.cell? ⟨w.heap.size, 3, none⟩ = some (.bool fr) := (hb1.cell (p := ⟨w.heap.size, 3, none⟩) (by simp)).trans (by simp [go_sem])
  have c4 : w1.cell? ⟨w.heap.size, 4, none⟩ = some (.bool true) := (hb1.cell (p := ⟨w.heap.size, 4, none⟩) (by simp)).trans (by simp [go_sem])
  have hlt : w.heap.size < w1.heap.size := World.block_lt_of_cell? w1 _ c0
  clear hb1 H
  go_wp2_with fail
  go_region_held3 (fun w' => w'.cell? ⟨w.heap.size, 0, none⟩ = some (.int .i64 6) ∧ w'.cell? ⟨w.heap.size, 1, none⟩ = some (.string r))
    (first | go_keep | (go_split_ands; refine ⟨(hb2.cell (p := ⟨w.heap.size, 0, none⟩) hlt).trans c0, (hb2.cell (p := ⟨w.heap.size, 1, none⟩) hlt).trans c1⟩))
    ((go_at_call 121; refine (HW _).mono ?_; rintro e' w2 ⟨rfl, hb2⟩))
  have HB2 := hide (bstep (unhide HB1) ((below_drewN (Below.refl _ w1) 1).trans hb2))
  have d0 : w2.cell? ⟨w.heap.size, 0, none⟩ = some (.int .i64 6) := (hb2.cell (p := ⟨w.heap.size, 0, none⟩) hlt).trans c0
  have d1 : w2.cell? ⟨w.heap.size, 1, none⟩ = some (.string r) := (hb2.cell (p := ⟨w.heap.size, 1, none⟩) hlt).trans c1
  have d2 : w2.cell? ⟨w.heap.size, 2, none⟩ = some (.int .i64 g) := (hb2.cell (p := ⟨w.heap.size, 2, none⟩) hlt).trans c2
  have d3 : w2.cell? ⟨w.heap.size, 3, none⟩ = some (.bool fr) := (hb2.cell (p := ⟨w.heap.size, 3, none⟩) hlt).trans c3
  have d4 : w2.cell? ⟨w.heap.size, 4, none⟩ = some (.bool true) := (hb2.cell (p := ⟨w.heap.size, 4, none⟩) hlt).trans c4
  have hlt2 : w.heap.size < w2.heap.size := World.block_lt_of_cell? w2 _ d0
  clear hb2
  go_wp2_with fail
  go_ret
  exact ⟨rfl, unhide HB2⟩

set_option maxHeartbeats 1600000 in
set_option maxRecDepth 100000 in
theorem check_stopo (e : Int) (r : ByteArray) (g : Int) (fr st : Bool) (w : World) (n : Int) (hm : r.size ≤ maxLen) (he : 1 ≤ e ∧ e ≤ 7) (HW : ∀ w : World, Calls Tryz.prog 121 #[.int .i64 e, .string r] w fun e' w' => e' = .returned (.int .i64 n) ∧ Below w.heap.size w w') (hn : (n != (r.size : Int)) = false) (h6 : (e != 6) = true) (h7 : (e != 7) = true) (hg : g = 0) (hf : fr = false) (hs : st = true) :
    Calls Tryz.prog 60 #[.agg #[.int .i64 e, .string r, .int .i64 g, .bool fr, .bool st]] w fun e' w' => e' = .returned (.int .i64 4) ∧ Below w.heap.size w w' := by
  have H := fun w => kind_yes e w he
  unfold maxLen at hm
  subst hg hf hs
  go_enter Tryz.func60, Tryz.ntmps60
  go_wp2_with fail
  refine (H _).mono ?_
  rintro e' w1 ⟨rfl, hb1⟩
  have HB1 := hide (bstep (balloc _ _) hb1)
  have c0 : w1.cell? ⟨w.heap.size, 0, none⟩ = some (.int .i64 e) := (hb1.cell (p := ⟨w.heap.size, 0, none⟩) (by simp)).trans (by simp [go_sem])
  have c1 : w1.cell? ⟨w.heap.size, 1, none⟩ = some (.string r) := (hb1.cell (p := ⟨w.heap.size, 1, none⟩) (by simp)).trans (by simp [go_sem])
  have c2 : w1.cell? ⟨w.heap.size, 2, none⟩ = some (.int .i64 0) := (hb1.cell (p := ⟨w.heap.size, 2, none⟩) (by simp)).trans (by simp [go_sem])
  have c3 : w1.cell? ⟨w.heap.size, 3, none⟩ = some (.bool false) := (hb1.cell (p := ⟨w.heap.size, 3, none⟩) (by simp)).trans (by simp [go_sem])
  have c4 : w1.cell? ⟨w.heap.size, 4, none⟩ = some (.bool true) := (hb1.cell (p := ⟨w.heap.size, 4, none⟩) (by simp)).trans (by simp [go_sem])
  have hlt : w.heap.size < w1.heap.size := World.block_lt_of_cell? w1 _ c0
  clear hb1 H
  go_wp2_with fail
  go_region_held3 (fun w' => w'.cell? ⟨w.heap.size, 0, none⟩ = some (.int .i64 e) ∧ w'.cell? ⟨w.heap.size, 1, none⟩ = some (.string r))
    (first | go_keep | (go_split_ands; refine ⟨(hb2.cell (p := ⟨w.heap.size, 0, none⟩) hlt).trans c0, (hb2.cell (p := ⟨w.heap.size, 1, none⟩) hlt).trans c1⟩))
    ((go_at_call 121; refine (HW _).mono ?_; rintro e' w2 ⟨rfl, hb2⟩))
  have HB2 := hide (bstep (unhide HB1) ((below_drewN (Below.refl _ w1) 1).trans hb2))
  have d0 : w2.cell? ⟨w.heap.size, 0, none⟩ = some (.int .i64 e) := (hb2.cell (p := ⟨w.heap.size, 0, none⟩) hlt).trans c0
  have d1 : w2.cell? ⟨w.heap.size, 1, none⟩ = some (.string r) := (hb2.cell (p := ⟨w.heap.size, 1, none⟩) hlt).trans c1
  have d2 : w2.cell? ⟨w.heap.size, 2, none⟩ = some (.int .i64 0) := (hb2.cell (p := ⟨w.heap.size, 2, none⟩) hlt).trans c2
  have d3 : w2.cell? ⟨w.heap.size, 3, none⟩ = some (.bool false) := (hb2.cell (p := ⟨w.heap.size, 3, none⟩) hlt).trans c3
  have d4 : w2.cell? ⟨w.heap.size, 4, none⟩ = some (.bool true) := (hb2.cell (p := ⟨w.heap.size, 4, none⟩) hlt).trans c4
  have hlt2 : w.heap.size < w2.heap.size := World.block_lt_of_cell? w2 _ d0
  clear hb2
  go_wp2_with fail
  go_ret
  exact ⟨rfl, unhide HB2⟩

set_option maxHeartbeats 1600000 in
set_option maxRecDepth 100000 in
theorem check_okk (e : Int) (r : ByteArray) (g : Int) (fr st : Bool) (w : World) (n : Int) (hm : r.size ≤ maxLen) (he : 1 ≤ e ∧ e ≤ 7) (HW : ∀ w : World, Calls Tryz.prog 121 #[.int .i64 e, .string r] w fun e' w' => e' = .returned (.int .i64 n) ∧ Below w.heap.size w w') (hn : (n != (r.size : Int)) = false) (h6 : e = 6) (hg0 : 0 ≤ g) (hg2 : g ≤ 2) (hs : st = false) :
    Calls Tryz.prog 60 #[.agg #[.int .i64 e, .string r, .int .i64 g, .bool fr, .bool st]] w fun e' w' => e' = .returned (.int .i64 0) ∧ Below w.heap.size w w' := by
  have H := fun w => kind_yes e w he
  unfold maxLen at hm
  subst h6 hs
  go_enter Tryz.func60, Tryz.ntmps60
  go_wp2_with fail
  refine (H _).mono ?_
  rintro e' w1 ⟨rfl, hb1⟩
  have HB1 := hide (bstep (balloc _ _) hb1)
  have c0 : w1.cell? ⟨w.heap.size, 0, none⟩ = some (.int .i64 6) := (hb1.cell (p := ⟨w.heap.size, 0, none⟩) (by simp)).trans (by simp [go_sem])
  have c1 : w1.cell? ⟨w.heap.size, 1, none⟩ = some (.string r) := (hb1.cell (p := ⟨w.heap.size, 1, none⟩) (by simp)).trans (by simp [go_sem])
  have c2 : w1.cell? ⟨w.heap.size, 2, none⟩ = some (.int .i64 g) := (hb1.cell (p := ⟨w.heap.size, 2, none⟩) (by simp)).trans (by simp [go_sem])
  have c3 : w1.cell? ⟨w.heap.size, 3, none⟩ = some (.bool fr) := (hb1.cell (p := ⟨w.heap.size, 3, none⟩) (by simp)).trans (by simp [go_sem])
  have c4 : w1.cell? ⟨w.heap.size, 4, none⟩ = some (.bool false) := (hb1.cell (p := ⟨w.heap.size, 4, none⟩) (by simp)).trans (by simp [go_sem])
  have hlt : w.heap.size < w1.heap.size := World.block_lt_of_cell? w1 _ c0
  clear hb1 H
  go_wp2_with fail
  go_region_held3 (fun w' => w'.cell? ⟨w.heap.size, 0, none⟩ = some (.int .i64 6) ∧ w'.cell? ⟨w.heap.size, 1, none⟩ = some (.string r))
    (first | go_keep | (go_split_ands; refine ⟨(hb2.cell (p := ⟨w.heap.size, 0, none⟩) hlt).trans c0, (hb2.cell (p := ⟨w.heap.size, 1, none⟩) hlt).trans c1⟩))
    ((go_at_call 121; refine (HW _).mono ?_; rintro e' w2 ⟨rfl, hb2⟩))
  have HB2 := hide (bstep (unhide HB1) ((below_drewN (Below.refl _ w1) 1).trans hb2))
  have d0 : w2.cell? ⟨w.heap.size, 0, none⟩ = some (.int .i64 6) := (hb2.cell (p := ⟨w.heap.size, 0, none⟩) hlt).trans c0
  have d1 : w2.cell? ⟨w.heap.size, 1, none⟩ = some (.string r) := (hb2.cell (p := ⟨w.heap.size, 1, none⟩) hlt).trans c1
  have d2 : w2.cell? ⟨w.heap.size, 2, none⟩ = some (.int .i64 g) := (hb2.cell (p := ⟨w.heap.size, 2, none⟩) hlt).trans c2
  have d3 : w2.cell? ⟨w.heap.size, 3, none⟩ = some (.bool fr) := (hb2.cell (p := ⟨w.heap.size, 3, none⟩) hlt).trans c3
  have d4 : w2.cell? ⟨w.heap.size, 4, none⟩ = some (.bool false) := (hb2.cell (p := ⟨w.heap.size, 4, none⟩) hlt).trans c4
  have hlt2 : w.heap.size < w2.heap.size := World.block_lt_of_cell? w2 _ d0
  clear hb2
  go_wp2_with fail
  go_ret
  exact ⟨rfl, unhide HB2⟩

set_option maxHeartbeats 1600000 in
set_option maxRecDepth 100000 in
theorem check_okx (e : Int) (r : ByteArray) (g : Int) (fr st : Bool) (w : World) (n : Int) (hm : r.size ≤ maxLen) (he : 1 ≤ e ∧ e ≤ 7) (HW : ∀ w : World, Calls Tryz.prog 121 #[.int .i64 e, .string r] w fun e' w' => e' = .returned (.int .i64 n) ∧ Below w.heap.size w w') (hn : (n != (r.size : Int)) = false) (h7 : e = 7) (hg : g = 0) (hf : fr = false) :
    Calls Tryz.prog 60 #[.agg #[.int .i64 e, .string r, .int .i64 g, .bool fr, .bool st]] w fun e' w' => e' = .returned (.int .i64 0) ∧ Below w.heap.size w w' := by
  have H := fun w => kind_yes e w he
  unfold maxLen at hm
  subst h7 hg hf
  go_enter Tryz.func60, Tryz.ntmps60
  go_wp2_with fail
  refine (H _).mono ?_
  rintro e' w1 ⟨rfl, hb1⟩
  have HB1 := hide (bstep (balloc _ _) hb1)
  have c0 : w1.cell? ⟨w.heap.size, 0, none⟩ = some (.int .i64 7) := (hb1.cell (p := ⟨w.heap.size, 0, none⟩) (by simp)).trans (by simp [go_sem])
  have c1 : w1.cell? ⟨w.heap.size, 1, none⟩ = some (.string r) := (hb1.cell (p := ⟨w.heap.size, 1, none⟩) (by simp)).trans (by simp [go_sem])
  have c2 : w1.cell? ⟨w.heap.size, 2, none⟩ = some (.int .i64 0) := (hb1.cell (p := ⟨w.heap.size, 2, none⟩) (by simp)).trans (by simp [go_sem])
  have c3 : w1.cell? ⟨w.heap.size, 3, none⟩ = some (.bool false) := (hb1.cell (p := ⟨w.heap.size, 3, none⟩) (by simp)).trans (by simp [go_sem])
  have c4 : w1.cell? ⟨w.heap.size, 4, none⟩ = some (.bool st) := (hb1.cell (p := ⟨w.heap.size, 4, none⟩) (by simp)).trans (by simp [go_sem])
  have hlt : w.heap.size < w1.heap.size := World.block_lt_of_cell? w1 _ c0
  clear hb1 H
  go_wp2_with fail
  go_region_held3 (fun w' => w'.cell? ⟨w.heap.size, 0, none⟩ = some (.int .i64 7) ∧ w'.cell? ⟨w.heap.size, 1, none⟩ = some (.string r))
    (first | go_keep | (go_split_ands; refine ⟨(hb2.cell (p := ⟨w.heap.size, 0, none⟩) hlt).trans c0, (hb2.cell (p := ⟨w.heap.size, 1, none⟩) hlt).trans c1⟩))
    ((go_at_call 121; refine (HW _).mono ?_; rintro e' w2 ⟨rfl, hb2⟩))
  have HB2 := hide (bstep (unhide HB1) ((below_drewN (Below.refl _ w1) 1).trans hb2))
  have d0 : w2.cell? ⟨w.heap.size, 0, none⟩ = some (.int .i64 7) := (hb2.cell (p := ⟨w.heap.size, 0, none⟩) hlt).trans c0
  have d1 : w2.cell? ⟨w.heap.size, 1, none⟩ = some (.string r) := (hb2.cell (p := ⟨w.heap.size, 1, none⟩) hlt).trans c1
  have d2 : w2.cell? ⟨w.heap.size, 2, none⟩ = some (.int .i64 0) := (hb2.cell (p := ⟨w.heap.size, 2, none⟩) hlt).trans c2
  have d3 : w2.cell? ⟨w.heap.size, 3, none⟩ = some (.bool false) := (hb2.cell (p := ⟨w.heap.size, 3, none⟩) hlt).trans c3
  have d4 : w2.cell? ⟨w.heap.size, 4, none⟩ = some (.bool st) := (hb2.cell (p := ⟨w.heap.size, 4, none⟩) hlt).trans c4
  have hlt2 : w.heap.size < w2.heap.size := World.block_lt_of_cell? w2 _ d0
  clear hb2
  go_wp2_with fail
  go_ret
  exact ⟨rfl, unhide HB2⟩

set_option maxHeartbeats 1600000 in
set_option maxRecDepth 100000 in
theorem check_oko (e : Int) (r : ByteArray) (g : Int) (fr st : Bool) (w : World) (n : Int) (hm : r.size ≤ maxLen) (he : 1 ≤ e ∧ e ≤ 7) (HW : ∀ w : World, Calls Tryz.prog 121 #[.int .i64 e, .string r] w fun e' w' => e' = .returned (.int .i64 n) ∧ Below w.heap.size w w') (hn : (n != (r.size : Int)) = false) (h6 : (e != 6) = true) (h7 : (e != 7) = true) (hg : g = 0) (hf : fr = false) (hs : st = false) :
    Calls Tryz.prog 60 #[.agg #[.int .i64 e, .string r, .int .i64 g, .bool fr, .bool st]] w fun e' w' => e' = .returned (.int .i64 0) ∧ Below w.heap.size w w' := by
  have H := fun w => kind_yes e w he
  unfold maxLen at hm
  subst hg hf hs
  go_enter Tryz.func60, Tryz.ntmps60
  go_wp2_with fail
  refine (H _).mono ?_
  rintro e' w1 ⟨rfl, hb1⟩
  have HB1 := hide (bstep (balloc _ _) hb1)
  have c0 : w1.cell? ⟨w.heap.size, 0, none⟩ = some (.int .i64 e) := (hb1.cell (p := ⟨w.heap.size, 0, none⟩) (by simp)).trans (by simp [go_sem])
  have c1 : w1.cell? ⟨w.heap.size, 1, none⟩ = some (.string r) := (hb1.cell (p := ⟨w.heap.size, 1, none⟩) (by simp)).trans (by simp [go_sem])
  have c2 : w1.cell? ⟨w.heap.size, 2, none⟩ = some (.int .i64 0) := (hb1.cell (p := ⟨w.heap.size, 2, none⟩) (by simp)).trans (by simp [go_sem])
  have c3 : w1.cell? ⟨w.heap.size, 3, none⟩ = some (.bool false) := (hb1.cell (p := ⟨w.heap.size, 3, none⟩) (by simp)).trans (by simp [go_sem])
  have c4 : w1.cell? ⟨w.heap.size, 4, none⟩ = some (.bool false) := (hb1.cell (p := ⟨w.heap.size, 4, none⟩) (by simp)).trans (by simp [go_sem])
  have hlt : w.heap.size < w1.heap.size := World.block_lt_of_cell? w1 _ c0
  clear hb1 H
  go_wp2_with fail
  go_region_held3 (fun w' => w'.cell? ⟨w.heap.size, 0, none⟩ = some (.int .i64 e) ∧ w'.cell? ⟨w.heap.size, 1, none⟩ = some (.string r))
    (first | go_keep | (go_split_ands; refine ⟨(hb2.cell (p := ⟨w.heap.size, 0, none⟩) hlt).trans c0, (hb2.cell (p := ⟨w.heap.size, 1, none⟩) hlt).trans c1⟩))
    ((go_at_call 121; refine (HW _).mono ?_; rintro e' w2 ⟨rfl, hb2⟩))
  have HB2 := hide (bstep (unhide HB1) ((below_drewN (Below.refl _ w1) 1).trans hb2))
  have d0 : w2.cell? ⟨w.heap.size, 0, none⟩ = some (.int .i64 e) := (hb2.cell (p := ⟨w.heap.size, 0, none⟩) hlt).trans c0
  have d1 : w2.cell? ⟨w.heap.size, 1, none⟩ = some (.string r) := (hb2.cell (p := ⟨w.heap.size, 1, none⟩) hlt).trans c1
  have d2 : w2.cell? ⟨w.heap.size, 2, none⟩ = some (.int .i64 0) := (hb2.cell (p := ⟨w.heap.size, 2, none⟩) hlt).trans c2
  have d3 : w2.cell? ⟨w.heap.size, 3, none⟩ = some (.bool false) := (hb2.cell (p := ⟨w.heap.size, 3, none⟩) hlt).trans c3
  have d4 : w2.cell? ⟨w.heap.size, 4, none⟩ = some (.bool false) := (hb2.cell (p := ⟨w.heap.size, 4, none⟩) hlt).trans c4
  have hlt2 : w.heap.size < w2.heap.size := World.block_lt_of_cell? w2 _ d0
  clear hb2
  go_wp2_with fail
  go_ret
  exact ⟨rfl, unhide HB2⟩

/-- What Check answers. -/
def chk (e : Int) (r : ByteArray) (t : M.St) : Int :=
  if ¬ (1 ≤ e ∧ e ≤ 7) then 6 else if ¬ (M.wE e (bl r) = r.size ∧ r.size ≤ 3) then 1 else if t.1 < 0 ∨ 2 < t.1 then 4 else if e ≠ 6 ∧ (t.1 ≠ 0 ∨ t.2.1 = true) then 4 else if e ≠ 7 ∧ t.2.2 = true then 4 else 0
theorem waits_val (e : Int) (r : ByteArray) (hm : r.size ≤ maxLen) (he : 1 ≤ e ∧ e ≤ 7) : ∃ n : Int, (∀ w : World, Calls Tryz.prog 121 #[.int .i64 e, .string r] w fun e' w' => e' = .returned (.int .i64 n) ∧ Below w.heap.size w w') ∧ (n = r.size ↔ M.wE e (bl r) = r.size ∧ r.size ≤ 3) := by
  have hb := M.wE_bd he (bl r)
  by_cases h8 : e = 1 → r.size ≤ 3000
  · exact ⟨_, fun w => waits_any e r w he hm h8, ⟨fun h => ⟨h, by omega⟩, fun h => h.1⟩⟩
  · have h1 : e = 1 := Classical.byContradiction (fun q => h8 (fun h => absurd h q))
    subst h1
    have h2 : 3000 < r.size := Nat.lt_of_not_le (fun q => h8 (fun _ => q))
    exact ⟨0, fun w => waits_long r w hm h2, ⟨fun h => by omega, fun h => by omega⟩⟩
theorem check_any (e : Int) (r : ByteArray) (t : M.St) (w : World) (hm : r.size ≤ maxLen) :
    Calls Tryz.prog 60 #[sv e r t] w fun e' w' => e' = .returned (.int .i64 (chk e r t)) ∧ Below w.heap.size w w' := by
  obtain ⟨g, fr, st⟩ := t
  unfold sv chk
  show Calls Tryz.prog 60 #[.agg #[.int .i64 e, .string r, .int .i64 g, .bool fr, .bool st]] w _
  by_cases he : 1 ≤ e ∧ e ≤ 7
  · rw [if_neg (fun q => q he)]
    obtain ⟨n, HW, hn⟩ := waits_val e r hm he
    by_cases hr : M.wE e (bl r) = r.size ∧ r.size ≤ 3
    · rw [if_neg (fun q => q hr)]
      have hn1 : (n != (r.size : Int)) = false := by simpa using hn.2 hr
      by_cases hg : g < 0 ∨ 2 < g
      · rw [if_pos hg]
        rcases hg with hg | hg
        · exact check_low e r g fr st w n hm he HW hn1 hg
        · exact check_high e r g fr st w n hm he HW hn1 hg
      · rw [if_neg hg]
        by_cases h6 : e = 6
        · rw [if_neg (fun q => q.1 h6)]
          cases st
          · rw [if_neg (by simp)]
            exact check_okk e r g fr false w n hm he HW hn1 h6 (by omega) (by omega) rfl
          · rw [if_pos ⟨by omega, rfl⟩]
            exact check_stopk e r g fr true w n hm he HW hn1 h6 (by omega) (by omega) rfl
        · have h6' : (e != 6) = true := by simpa using h6
          by_cases hg0 : g = 0
          · cases fr
            · rw [if_neg (by simp [hg0])]
              by_cases h7 : e = 7
              · rw [if_neg (fun q => q.1 h7)]
                exact check_okx e r g false st w n hm he HW hn1 h7 hg0 rfl
              · have h7' : (e != 7) = true := by simpa using h7
                cases st
                · rw [if_neg (by simp)]
                  exact check_oko e r g false false w n hm he HW hn1 h6' h7' hg0 rfl rfl
                · rw [if_pos ⟨h7, rfl⟩]
                  exact check_stopo e r g false true w n hm he HW hn1 h6' h7' hg0 rfl rfl
            · rw [if_pos ⟨h6, .inr rfl⟩]
              exact check_fresh e r g true st w n hm he HW hn1 h6' hg0 rfl
          · rw [if_pos ⟨h6, .inl hg0⟩]
            exact check_signs e r g fr st w n hm he HW hn1 (by omega) (by omega) h6' (by simpa using hg0)
    · rw [if_pos hr]
      have hn1 : (n != (r.size : Int)) = true := by simpa using fun h => hr (hn.1 h)
      exact check_form e r g fr st w n hm he HW hn1
  · rw [if_pos he]
    exact check_kind e r g fr st w he
theorem chk_ok {e : Int} {r : ByteArray} {t : M.St} : chk e r t = 0 ↔ (1 ≤ e ∧ e ≤ 7) ∧ (M.wE e (bl r) = r.size ∧ r.size ≤ 3) ∧ M.Ok e t := by
  unfold chk M.Ok M.Sg
  constructor
  · intro h
    split at h
    · omega
    · rename_i h1
      split at h
      · omega
      · rename_i h2
        split at h
        · omega
        · rename_i h3
          split at h
          · omega
          · rename_i h4
            split at h
            · omega
            · rename_i h5
              have h1' : 1 ≤ e ∧ e ≤ 7 := Classical.byContradiction h1
              have h2' : M.wE e (bl r) = r.size ∧ r.size ≤ 3 := Classical.byContradiction h2
              refine ⟨h1', h2', by omega, fun q => ?_, fun q => ?_⟩
              · refine ⟨Classical.byContradiction (fun z => h4 ⟨q, .inl z⟩), ?_⟩
                cases hf : t.2.1
                · rfl
                · exact absurd ⟨q, .inr hf⟩ h4
              · cases hf : t.2.2
                · rfl
                · exact absurd ⟨q, hf⟩ h5
  · rintro ⟨h1, h2, h3, h4, h5⟩
    rw [if_neg (fun q => q h1), if_neg (fun q => q h2), if_neg (by omega), if_neg, if_neg]
    · rintro ⟨q, z⟩; rw [h5 q] at z; cases z
    · rintro ⟨q, z⟩
      rcases z with z | z
      · exact z (h4 q).1
      · rw [(h4 q).2] at z; cases z
end Go.Proofs.YtaiinjfnkmidbaaGreatDoor

namespace Go.Proofs.YtaiinjfnkmidbaaGreatDoor
open Go.RowKit
set_option linter.unusedVariables false

/-- The cells of a state that is answered. -/
structure Rc (B : Nat) (w : World) : Prop where
  b0 : w.cell? ⟨B, 0, none⟩ = some (.int .i64 0)
  b1 : w.cell? ⟨B, 1, none⟩ = some (.string ⟨#[]⟩)
  b2 : w.cell? ⟨B, 2, none⟩ = some (.int .i64 0)
  b3 : w.cell? ⟨B, 3, none⟩ = some (.bool false)
  b4 : w.cell? ⟨B, 4, none⟩ = some (.bool false)
  g0 : w.frozen? ⟨B, 0, none⟩ = false
  g1 : w.frozen? ⟨B, 1, none⟩ = false
  g2 : w.frozen? ⟨B, 2, none⟩ = false
  g3 : w.frozen? ⟨B, 3, none⟩ = false
  g4 : w.frozen? ⟨B, 4, none⟩ = false
theorem Rc.below {B D : Nat} {w w2 : World} (h : Rc B w) (hb : Below D w w2) (hB : B < D) : Rc B w2 where
  b0 := (hb.cell (p := ⟨B, 0, none⟩) hB).trans h.b0
  b1 := (hb.cell (p := ⟨B, 1, none⟩) hB).trans h.b1
  b2 := (hb.cell (p := ⟨B, 2, none⟩) hB).trans h.b2
  b3 := (hb.cell (p := ⟨B, 3, none⟩) hB).trans h.b3
  b4 := (hb.cell (p := ⟨B, 4, none⟩) hB).trans h.b4
  g0 := (hb.frozen (p := ⟨B, 0, none⟩) hB).trans h.g0
  g1 := (hb.frozen (p := ⟨B, 1, none⟩) hB).trans h.g1
  g2 := (hb.frozen (p := ⟨B, 2, none⟩) hB).trans h.g2
  g3 := (hb.frozen (p := ⟨B, 3, none⟩) hB).trans h.g3
  g4 := (hb.frozen (p := ⟨B, 4, none⟩) hB).trans h.g4

set_option maxHeartbeats 800000 in
set_option maxRecDepth 100000 in
theorem open_yes (e : Int) (w : World) (he : 1 ≤ e ∧ e ≤ 7) : Calls Tryz.prog 45 #[.int .i64 e] w fun e' w' => e' = .returned (.tuple #[sv e ⟨#[]⟩ M.st0, .int .i64 0]) ∧ Below w.heap.size w w' := by
  have H := fun w => kind_yes e w he
  go_enter Tryz.func45, Tryz.ntmps45
  go_wp2_with fail
  refine (H _).mono ?_
  rintro e' w1 ⟨rfl, hb1⟩
  have hR : Rc w.heap.size w1 := Rc.below (w := w.alloc (.cells #[.int .i64 0, .string ⟨#[]⟩, .int .i64 0, .bool false, .bool false] 23)) (by constructor <;> simp [go_sem]) hb1 (by simp)
  obtain ⟨b0, b1, b2, b3, b4, g0, g1, g2, g3, g4⟩ := hR
  have hlt : w.heap.size < w1.heap.size := World.block_lt_of_cell? w1 _ b0
  have HB := hide (bstep (balloc _ _) hb1)
  clear hb1 H
  go_wp2_with fail
  refine bodyPost_ret (v := .tuple #[sv e ⟨#[]⟩ M.st0, .int .i64 0]) (by simp [results, Tryz.results45, go_sem, b0, b1, b2, b3, b4, sv, M.st0]) rfl ⟨rfl, ?_⟩
  exact bset (bset (bset (bset (bset (unhide HB) ⟨w.heap.size, 0, none⟩ _ (Nat.le_refl _)) ⟨w.heap.size, 1, none⟩ _ (Nat.le_refl _)) ⟨w.heap.size, 2, none⟩ _ (Nat.le_refl _)) ⟨w.heap.size, 3, none⟩ _ (Nat.le_refl _)) ⟨w.heap.size, 4, none⟩ _ (Nat.le_refl _)
set_option maxHeartbeats 800000 in
set_option maxRecDepth 100000 in
theorem open_no (e : Int) (w : World) (he : ¬ (1 ≤ e ∧ e ≤ 7)) : Calls Tryz.prog 45 #[.int .i64 e] w fun e' w' => e' = .returned (.tuple #[sv 0 ⟨#[]⟩ M.st0, .int .i64 6]) ∧ Below w.heap.size w w' := by
  have H := fun w => kind_no e w he
  go_enter Tryz.func45, Tryz.ntmps45
  go_wp2_with fail
  refine (H _).mono ?_
  rintro e' w1 ⟨rfl, hb1⟩
  have hR : Rc w.heap.size w1 := Rc.below (w := w.alloc (.cells #[.int .i64 0, .string ⟨#[]⟩, .int .i64 0, .bool false, .bool false] 23)) (by constructor <;> simp [go_sem]) hb1 (by simp)
  obtain ⟨b0, b1, b2, b3, b4, g0, g1, g2, g3, g4⟩ := hR
  have hlt : w.heap.size < w1.heap.size := World.block_lt_of_cell? w1 _ b0
  have HB := hide (bstep (balloc _ _) hb1)
  clear hb1 H
  go_wp2_with fail
  refine bodyPost_ret (v := .tuple #[sv 0 ⟨#[]⟩ M.st0, .int .i64 6]) (by simp [results, Tryz.results45, go_sem, b0, b1, b2, b3, b4, sv, M.st0]) rfl ⟨rfl, ?_⟩
  exact bset (bset (bset (bset (bset (unhide HB) ⟨w.heap.size, 0, none⟩ _ (Nat.le_refl _)) ⟨w.heap.size, 1, none⟩ _ (Nat.le_refl _)) ⟨w.heap.size, 2, none⟩ _ (Nat.le_refl _)) ⟨w.heap.size, 3, none⟩ _ (Nat.le_refl _)) ⟨w.heap.size, 4, none⟩ _ (Nat.le_refl _)

theorem feed_all (D : Nat) (e : Int) (r : ByteArray) (t : M.St) (xs : List Int) (p : ByteArray) (w : World) (he : 1 ≤ e ∧ e ≤ 7) (hk : M.Ok e t) (hr : r.size ≤ 3) (hs : p.size ≤ 3000) (hx : xs.length ≤ 10000) (hD : Dl D e r t xs w) :
    Calls Tryz.prog 100 #[.pointer (some ⟨D, 0, none⟩), .string p] w fun e' w' => e' = .returned (.tuple #[]) ∧ Taken D e t xs (bl r ++ bl p) w w' := by
  by_cases h : p.size ≤ 2997
  · exact feed_short D e r t xs p w he hk.1 hr h hx hD
  · exact feed_great D e r t xs p w he hk hr (by omega) hs hx hD

/-- What Feed answers: what is told, and the state then. -/
def Fed (e : Int) (r : ByteArray) (t : M.St) (p : ByteArray) (last : Bool) (w : World) (e' : Ending) (w' : World) : Prop :=
  ∃ v r' t' L, e' = .returned (.tuple #[v, sv e r' t', .int .i64 0]) ∧ w'.ownsRow w.heap.size 3 1 v L.length (L.map (Value.int .i64)) ∧ Below w.heap.size w w' ∧
    (last = false → L = (M.RE e t (bl r ++ bl p)).1 ∧ bl r' = (M.RE e t (bl r ++ bl p)).2.2 ∧ t' = (M.RE e t (bl r ++ bl p)).2.1) ∧
    (last = true → L = (M.TE e t (bl r ++ bl p)).1 ∧ r' = ⟨#[]⟩ ∧ t' = M.st0)

set_option maxHeartbeats 3000000 in
set_option maxRecDepth 100000 in
theorem feed_more (e : Int) (r : ByteArray) (t : M.St) (p : ByteArray) (w : World) (he : 1 ≤ e ∧ e ≤ 7) (hr : M.wE e (bl r) = r.size ∧ r.size ≤ 3) (hk : M.Ok e t) (hs : p.size ≤ 3000) :
    Calls Tryz.prog 46 #[sv e r t, .string p, .bool false] w (Fed e r t p false w) := by
  have HC := fun w => check_any e r t w (by unfold maxLen; omega)
  rw [chk_ok.2 ⟨he, hr, hk⟩] at HC
  have hr3 := hr.2
  clear hr
  unfold sv at *
  go_enter Tryz.func46, Tryz.ntmps46
  go_wp2_with fail
  refine (HC _).mono ?_
  rintro e' w1 ⟨rfl, hb1⟩
  have HR1 : Hid (Rc (w.heap.size + 1) w1) := hide (Rc.below (w := (w.alloc (.cells #[.int .i64 e, .string r, .int .i64 t.1, .bool t.2.1, .bool t.2.2] 23)).alloc (.cells #[.int .i64 0, .string ⟨#[]⟩, .int .i64 0, .bool false, .bool false] 23)) (by constructor <;> simp [go_sem]) hb1 (by simp))
  have a0 : w1.cell? ⟨w.heap.size, 0, none⟩ = some (.int .i64 e) := (hb1.cell (p := ⟨w.heap.size, 0, none⟩) (by simp; omega)).trans (by simp [go_sem])
  have a1 : w1.cell? ⟨w.heap.size, 1, none⟩ = some (.string r) := (hb1.cell (p := ⟨w.heap.size, 1, none⟩) (by simp; omega)).trans (by simp [go_sem])
  have a2 : w1.cell? ⟨w.heap.size, 2, none⟩ = some (.int .i64 t.1) := (hb1.cell (p := ⟨w.heap.size, 2, none⟩) (by simp; omega)).trans (by simp [go_sem])
  have a3 : w1.cell? ⟨w.heap.size, 3, none⟩ = some (.bool t.2.1) := (hb1.cell (p := ⟨w.heap.size, 3, none⟩) (by simp; omega)).trans (by simp [go_sem])
  have a4 : w1.cell? ⟨w.heap.size, 4, none⟩ = some (.bool t.2.2) := (hb1.cell (p := ⟨w.heap.size, 4, none⟩) (by simp; omega)).trans (by simp [go_sem])
  have HB1 := hide (bstep (bstep (balloc _ _) (balloc _ _)) hb1)
  have hz1 : w.heap.size + 2 ≤ w1.heap.size := by have := hb1.size; simp at this; omega
  have hlt0 : w.heap.size < w1.heap.size := by omega
  clear hb1 HC
  go_wp2_with fail
  have HDl : Hid (Dl w1.heap.size e r t [] (w1.alloc (.cells #[.int .i64 e, .string r, .int .i64 t.1, .bool t.2.1, .bool t.2.2, .slice none 0 0] 125))) := hide ⟨.slice none 0 0, by constructor <;> simp [go_sem], World.ownsRow_nil _ _ _ _⟩
  refine (feed_all w1.heap.size e r t [] p _ he hk hr3 hs (by simp) (unhide HDl)).mono ?_
  rintro e' w2 ⟨rfl, r2, hr2, hD2, hB2⟩
  rw [List.nil_append] at hD2
  have HR2 := hide (((unhide HR1).below (balloc w1 (.cells #[.int .i64 e, .string r, .int .i64 t.1, .bool t.2.1, .bool t.2.2, .slice none 0 0] 125)) (by omega)).below hB2 (by omega))
  have HB2 := hide ((bstep (unhide HB1) (balloc w1 (.cells #[.int .i64 e, .string r, .int .i64 t.1, .bool t.2.1, .bool t.2.2, .slice none 0 0] 125))).trans (hB2.mono (by omega)))
  have HFew := hide (M.RE_few he t (bl r ++ bl p))
  have HOut := hide (M.RE_out he t (bl r ++ bl p))
  have HOk := hide (M.Ok_run he hk (bl r ++ bl p))
  have hlen : (bl r ++ bl p).length ≤ 3003 := by rw [List.length_append, bl_len, bl_len]; omega
  have HTE := hide (M.TE_run e t (bl r ++ bl p))
  have HDX := hide hD2
  have HRX := HR2
  have HBX := HB2
  have HL : Hid ((M.RE e t (bl r ++ bl p)).1 = (M.RE e t (bl r ++ bl p)).1) := hide rfl
  have HR' := hide hr2
  have HT' : Hid ((M.RE e t (bl r ++ bl p)).2.1 = (M.RE e t (bl r ++ bl p)).2.1) := hide rfl
  obtain ⟨D, hDD⟩ : ∃ D, w1.heap.size = D := ⟨_, rfl⟩
  rw [hDD] at hz1 hlt0 HDX
  clear hB2 HDl HOut HOk HFew HTE hD2 hr2
  generalize hL0 : (M.RE e t (bl r ++ bl p)).1 = L at HDX HL
  generalize hT0 : (M.RE e t (bl r ++ bl p)).2.1 = t2 at HDX HT'
  have HL0 := hide hL0
  have HT0 := hide hT0
  clear hL0 hT0
  obtain ⟨vv, hCx, hox⟩ := unhide HDX
  obtain ⟨ax, cx, hsx⟩ := owns_shape hox
  subst hsx
  have HIX := hide hox
  obtain ⟨d0, d1, d2, d3, d4, d5, k0, k1, k2, k3, k4, k5⟩ := hCx
  obtain ⟨b0, b1, b2, b3, b4, g0, g1, g2, g3, g4⟩ := unhide HRX
  have hDX : D < w2.heap.size := World.block_lt_of_cell? w2 _ d0
  have hBX : w.heap.size + 1 < w2.heap.size := by omega
  have hne : ¬ (w.heap.size + 1 = D) := by omega
  have hne' : ¬ (D = w.heap.size + 1) := by omega
  clear hox
  go_wp2_with fail
  go_region
  all_goals
    go_wp2_with fail
    refine bodyPost_ret (v := .tuple #[.slice ax L.length cx, .agg #[.int .i64 e, .string r2, .int .i64 t2.1, .bool t2.2.1, .bool t2.2.2], .int .i64 0]) (by simp [results, Tryz.results46, go_sem, b0, b1, b2, b3, b4]) rfl ?_
    refine ⟨.slice ax L.length cx, r2, t2, L, rfl, ?_, ?_, ?_, ?_⟩
    · exact owns_below (owns_mono (owns_set (owns_set (owns_set (owns_set (owns_set (unhide HIX) ⟨w.heap.size + 1, 0, none⟩ (by simp; omega) _) ⟨w.heap.size + 1, 1, none⟩ (by simp; omega) _) ⟨w.heap.size + 1, 2, none⟩ (by simp; omega) _) ⟨w.heap.size + 1, 3, none⟩ (by simp; omega) _) ⟨w.heap.size + 1, 4, none⟩ (by simp; omega) _) (by omega)) (below_drewN (Below.refl _ _) 1)
    · exact below_drewN (bset (bset (bset (bset (bset (unhide HBX) ⟨w.heap.size + 1, 0, none⟩ _ (by simp)) ⟨w.heap.size + 1, 1, none⟩ _ (by simp)) ⟨w.heap.size + 1, 2, none⟩ _ (by simp)) ⟨w.heap.size + 1, 3, none⟩ _ (by simp)) ⟨w.heap.size + 1, 4, none⟩ _ (by simp)) 1
    · intro _; exact ⟨(unhide HL0).symm, unhide HR', (unhide HT0).symm⟩
    · intro h; cases h

set_option maxHeartbeats 3000000 in
set_option maxRecDepth 100000 in
theorem feed_last (e : Int) (r : ByteArray) (t : M.St) (p : ByteArray) (w : World) (he : 1 ≤ e ∧ e ≤ 7) (hr : M.wE e (bl r) = r.size ∧ r.size ≤ 3) (hk : M.Ok e t) (hs : p.size ≤ 3000) :
    Calls Tryz.prog 46 #[sv e r t, .string p, .bool true] w (Fed e r t p true w) := by
  have HC := fun w => check_any e r t w (by unfold maxLen; omega)
  rw [chk_ok.2 ⟨he, hr, hk⟩] at HC
  have hr3 := hr.2
  clear hr
  unfold sv at *
  go_enter Tryz.func46, Tryz.ntmps46
  go_wp2_with fail
  refine (HC _).mono ?_
  rintro e' w1 ⟨rfl, hb1⟩
  have HR1 : Hid (Rc (w.heap.size + 1) w1) := hide (Rc.below (w := (w.alloc (.cells #[.int .i64 e, .string r, .int .i64 t.1, .bool t.2.1, .bool t.2.2] 23)).alloc (.cells #[.int .i64 0, .string ⟨#[]⟩, .int .i64 0, .bool false, .bool false] 23)) (by constructor <;> simp [go_sem]) hb1 (by simp))
  have a0 : w1.cell? ⟨w.heap.size, 0, none⟩ = some (.int .i64 e) := (hb1.cell (p := ⟨w.heap.size, 0, none⟩) (by simp; omega)).trans (by simp [go_sem])
  have a1 : w1.cell? ⟨w.heap.size, 1, none⟩ = some (.string r) := (hb1.cell (p := ⟨w.heap.size, 1, none⟩) (by simp; omega)).trans (by simp [go_sem])
  have a2 : w1.cell? ⟨w.heap.size, 2, none⟩ = some (.int .i64 t.1) := (hb1.cell (p := ⟨w.heap.size, 2, none⟩) (by simp; omega)).trans (by simp [go_sem])
  have a3 : w1.cell? ⟨w.heap.size, 3, none⟩ = some (.bool t.2.1) := (hb1.cell (p := ⟨w.heap.size, 3, none⟩) (by simp; omega)).trans (by simp [go_sem])
  have a4 : w1.cell? ⟨w.heap.size, 4, none⟩ = some (.bool t.2.2) := (hb1.cell (p := ⟨w.heap.size, 4, none⟩) (by simp; omega)).trans (by simp [go_sem])
  have HB1 := hide (bstep (bstep (balloc _ _) (balloc _ _)) hb1)
  have hz1 : w.heap.size + 2 ≤ w1.heap.size := by have := hb1.size; simp at this; omega
  have hlt0 : w.heap.size < w1.heap.size := by omega
  clear hb1 HC
  go_wp2_with fail
  have HDl : Hid (Dl w1.heap.size e r t [] (w1.alloc (.cells #[.int .i64 e, .string r, .int .i64 t.1, .bool t.2.1, .bool t.2.2, .slice none 0 0] 125))) := hide ⟨.slice none 0 0, by constructor <;> simp [go_sem], World.ownsRow_nil _ _ _ _⟩
  refine (feed_all w1.heap.size e r t [] p _ he hk hr3 hs (by simp) (unhide HDl)).mono ?_
  rintro e' w2 ⟨rfl, r2, hr2, hD2, hB2⟩
  rw [List.nil_append] at hD2
  have HR2 := hide (((unhide HR1).below (balloc w1 (.cells #[.int .i64 e, .string r, .int .i64 t.1, .bool t.2.1, .bool t.2.2, .slice none 0 0] 125)) (by omega)).below hB2 (by omega))
  have HB2 := hide ((bstep (unhide HB1) (balloc w1 (.cells #[.int .i64 e, .string r, .int .i64 t.1, .bool t.2.1, .bool t.2.2, .slice none 0 0] 125))).trans (hB2.mono (by omega)))
  have HFew := hide (M.RE_few he t (bl r ++ bl p))
  have HOut := hide (M.RE_out he t (bl r ++ bl p))
  have HOk := hide (M.Ok_run he hk (bl r ++ bl p))
  have hlen : (bl r ++ bl p).length ≤ 3003 := by rw [List.length_append, bl_len, bl_len]; omega
  have HTE := hide (M.TE_run e t (bl r ++ bl p))
  have hr23 : r2.size ≤ 3 := by rw [← bl_len, hr2]; exact unhide HFew
  have HE := end_any w1.heap.size e r2 _ _ w2 he (unhide HOk).1 hr23 (by have := unhide HOut; omega) hD2
  have HL : Hid ((M.RE e t (bl r ++ bl p)).1 ++ (M.TE e (M.RE e t (bl r ++ bl p)).2.1 (bl r2)).1 = (M.TE e t (bl r ++ bl p)).1) := hide (by rw [hr2, unhide HTE])
  generalize (M.RE e t (bl r ++ bl p)).1 ++ (M.TE e (M.RE e t (bl r ++ bl p)).2.1 (bl r2)).1 = L at *
  have hD2c := hD2
  obtain ⟨v2, hC2, ho2⟩ := hD2c
  obtain ⟨m0, m1, m2, m3, m4, m5, n0, n1, n2, n3, n4, n5⟩ := hC2
  clear hB2 ho2 HDl HOut HOk HFew HTE
  obtain ⟨D, hDD⟩ : ∃ D, w1.heap.size = D := ⟨_, rfl⟩
  rw [hDD] at hz1 hlt0 HE
  go_wp2_with fail
  refine HE.mono ?_
  rintro e' w3 ⟨rfl, hD3, hB3⟩
  have HDX := hide hD3
  have HRX := hide ((unhide HR2).below hB3 (by omega))
  have HBX := hide ((unhide HB2).trans (hB3.mono (by omega)))
  clear HE hD3 hB3 hD2
  obtain ⟨vv, hCx, hox⟩ := unhide HDX
  obtain ⟨ax, cx, hsx⟩ := owns_shape hox
  subst hsx
  have HIX := hide hox
  obtain ⟨d0, d1, d2, d3, d4, d5, k0, k1, k2, k3, k4, k5⟩ := hCx
  obtain ⟨b0, b1, b2, b3, b4, g0, g1, g2, g3, g4⟩ := unhide HRX
  have hDX : D < w3.heap.size := World.block_lt_of_cell? w3 _ d0
  have hBX : w.heap.size + 1 < w3.heap.size := by omega
  have hne : ¬ (w.heap.size + 1 = D) := by omega
  have hne' : ¬ (D = w.heap.size + 1) := by omega
  clear hox
  go_wp2_with fail
  go_region
  all_goals
    go_wp2_with fail
    refine bodyPost_ret (v := .tuple #[.slice ax L.length cx, .agg #[.int .i64 e, .string ⟨#[]⟩, .int .i64 M.st0.1, .bool M.st0.2.1, .bool M.st0.2.2], .int .i64 0]) (by simp [results, Tryz.results46, go_sem, b0, b1, b2, b3, b4]) rfl ?_
    refine ⟨.slice ax L.length cx, ⟨#[]⟩, M.st0, L, rfl, ?_, ?_, ?_, ?_⟩
    · exact owns_below (owns_mono (owns_set (owns_set (owns_set (owns_set (owns_set (unhide HIX) ⟨w.heap.size + 1, 0, none⟩ (by simp; omega) _) ⟨w.heap.size + 1, 1, none⟩ (by simp; omega) _) ⟨w.heap.size + 1, 2, none⟩ (by simp; omega) _) ⟨w.heap.size + 1, 3, none⟩ (by simp; omega) _) ⟨w.heap.size + 1, 4, none⟩ (by simp; omega) _) (by omega)) (below_drewN (Below.refl _ _) 1)
    · exact below_drewN (bset (bset (bset (bset (bset (unhide HBX) ⟨w.heap.size + 1, 0, none⟩ _ (by simp)) ⟨w.heap.size + 1, 1, none⟩ _ (by simp)) ⟨w.heap.size + 1, 2, none⟩ _ (by simp)) ⟨w.heap.size + 1, 3, none⟩ _ (by simp)) ⟨w.heap.size + 1, 4, none⟩ _ (by simp)) 1
    · intro h; cases h
    · intro _; exact ⟨unhide HL, rfl, rfl⟩
end Go.Proofs.YtaiinjfnkmidbaaGreatDoor

namespace Go.Proofs.YtaiinjfnkmidbaaGreatDoor
open Go.RowKit
set_option linter.unusedVariables false

theorem bl_inj {r : ByteArray} {xs : List Int} (h : bl r = xs) : r = strOfNums xs := by rw [← h, str_bl]
/-- A state in memory. -/
structure Sc (B : Nat) (e : Int) (r : ByteArray) (t : M.St) (w : World) : Prop where
  c0 : w.cell? ⟨B, 0, none⟩ = some (.int .i64 e)
  c1 : w.cell? ⟨B, 1, none⟩ = some (.string r)
  c2 : w.cell? ⟨B, 2, none⟩ = some (.int .i64 t.1)
  c3 : w.cell? ⟨B, 3, none⟩ = some (.bool t.2.1)
  c4 : w.cell? ⟨B, 4, none⟩ = some (.bool t.2.2)
  f0 : w.frozen? ⟨B, 0, none⟩ = false
  f1 : w.frozen? ⟨B, 1, none⟩ = false
  f2 : w.frozen? ⟨B, 2, none⟩ = false
  f3 : w.frozen? ⟨B, 3, none⟩ = false
  f4 : w.frozen? ⟨B, 4, none⟩ = false
theorem Sc.below {B D : Nat} {e : Int} {r : ByteArray} {t : M.St} {w w2 : World} (h : Sc B e r t w) (hb : Below D w w2) (hB : B < D) : Sc B e r t w2 where
  c0 := (hb.cell (p := ⟨B, 0, none⟩) hB).trans h.c0
  c1 := (hb.cell (p := ⟨B, 1, none⟩) hB).trans h.c1
  c2 := (hb.cell (p := ⟨B, 2, none⟩) hB).trans h.c2
  c3 := (hb.cell (p := ⟨B, 3, none⟩) hB).trans h.c3
  c4 := (hb.cell (p := ⟨B, 4, none⟩) hB).trans h.c4
  f0 := (hb.frozen (p := ⟨B, 0, none⟩) hB).trans h.f0
  f1 := (hb.frozen (p := ⟨B, 1, none⟩) hB).trans h.f1
  f2 := (hb.frozen (p := ⟨B, 2, none⟩) hB).trans h.f2
  f3 := (hb.frozen (p := ⟨B, 3, none⟩) hB).trans h.f3
  f4 := (hb.frozen (p := ⟨B, 4, none⟩) hB).trans h.f4
theorem Sc.lt {B : Nat} {e : Int} {r : ByteArray} {t : M.St} {w : World} (h : Sc B e r t w) : B < w.heap.size := World.block_lt_of_cell? w _ h.c0
theorem Sc.on {B : Nat} {e : Int} {r : ByteArray} {t : M.St} {w w2 : World} (h : Sc B e r t w) (hb : Below w.heap.size w w2) : Sc B e r t w2 := h.below hb h.lt
theorem Sc.new (w : World) (e : Int) (r : ByteArray) (t : M.St) : Sc w.heap.size e r t (w.alloc (.cells #[.int .i64 e, .string r, .int .i64 t.1, .bool t.2.1, .bool t.2.2] 23)) := by constructor <;> simp [go_sem]
theorem Sc.put {B : Nat} {w : World} (h : Rc B w) (e : Int) (r : ByteArray) (t : M.St) : Sc B e r t (((((w.setCell ⟨B, 0, none⟩ (.int .i64 e)).setCell ⟨B, 1, none⟩ (.string r)).setCell ⟨B, 2, none⟩ (.int .i64 t.1)).setCell ⟨B, 3, none⟩ (.bool t.2.1)).setCell ⟨B, 4, none⟩ (.bool t.2.2)) := by
  obtain ⟨b0, b1, b2, b3, b4, g0, g1, g2, g3, g4⟩ := h
  constructor <;> simp [go_sem, b0, b1, b2, b3, b4, g0, g1, g2, g3, g4]
theorem Sc.rc {B : Nat} {w : World} {r : ByteArray} {e : Int} {t : M.St} (h : Sc B e r t w) (e2 : Int) (r2 : ByteArray) (t2 : M.St) : Sc B e2 r2 t2 (((((w.setCell ⟨B, 0, none⟩ (.int .i64 e2)).setCell ⟨B, 1, none⟩ (.string r2)).setCell ⟨B, 2, none⟩ (.int .i64 t2.1)).setCell ⟨B, 3, none⟩ (.bool t2.2.1)).setCell ⟨B, 4, none⟩ (.bool t2.2.2)) := by
  obtain ⟨b0, b1, b2, b3, b4, g0, g1, g2, g3, g4⟩ := h
  constructor <;> simp [go_sem, b0, b1, b2, b3, b4, g0, g1, g2, g3, g4]
theorem bset5 {B D : Nat} {w0 w : World} {e : Int} {r : ByteArray} {t : M.St} (h : Below D w0 w) (hB : D ≤ B) : Below D w0 (((((w.setCell ⟨B, 0, none⟩ (.int .i64 e)).setCell ⟨B, 1, none⟩ (.string r)).setCell ⟨B, 2, none⟩ (.int .i64 t.1)).setCell ⟨B, 3, none⟩ (.bool t.2.1)).setCell ⟨B, 4, none⟩ (.bool t.2.2)) := (bset (bset (bset (bset (bset h ⟨B, 0, none⟩ _ hB) ⟨B, 1, none⟩ _ hB) ⟨B, 2, none⟩ _ hB) ⟨B, 3, none⟩ _ hB) ⟨B, 4, none⟩ _ hB)
theorem oset5 {B D : Nat} {w : World} {e : Int} {r : ByteArray} {t : M.St} {v : Value} {n : Nat} {xs : List Value} (h : w.ownsRow D 3 1 v n xs) (hB : B < D) : (((((w.setCell ⟨B, 0, none⟩ (.int .i64 e)).setCell ⟨B, 1, none⟩ (.string r)).setCell ⟨B, 2, none⟩ (.int .i64 t.1)).setCell ⟨B, 3, none⟩ (.bool t.2.1)).setCell ⟨B, 4, none⟩ (.bool t.2.2)).ownsRow D 3 1 v n xs := (owns_set (owns_set (owns_set (owns_set (owns_set h ⟨B, 0, none⟩ hB _) ⟨B, 1, none⟩ hB _) ⟨B, 2, none⟩ hB _) ⟨B, 3, none⟩ hB _) ⟨B, 4, none⟩ hB _)
def s1 : ByteArray := ⟨#[97, 226, 130]⟩
def s2 : ByteArray := ⟨#[172, 226]⟩
def s3 : ByteArray := ⟨#[120, 121, 122]⟩
def s4 : ByteArray := ⟨#[226, 130]⟩
theorem re_b : M.RE 1 M.st0 (bl ⟨#[]⟩ ++ bl s1) = ([97], M.st0, [226, 130]) := by decide +kernel
theorem te_b : (M.TE 1 M.st0 (bl s4 ++ bl s2)).1 = [8364, 65533] := by decide +kernel
theorem de_b : M.decE 7 (bl s3) = [65533] := by decide +kernel
theorem ck_b : chk 1 s4 M.st0 = 0 := by decide +kernel

set_option maxHeartbeats 3000000 in
set_option maxRecDepth 100000 in
theorem begunT_any (w : World) : Calls Tryz.prog 39 #[] w fun e w' => e = .returned (.bool true) ∧ Below w.heap.size w w' := by
  go_enter Tryz.func39, Tryz.ntmps39
  go_wp2_with fail
  refine (open_yes 1 _ (by omega)).mono ?_
  rintro e w1 ⟨rfl, hb1⟩
  have HB1 := hide hb1
  clear hb1
  unfold sv M.st0
  go_wp2_with fail
  refine (feed_more 1 ⟨#[]⟩ M.st0 s1 _ (by omega) ⟨by decide +kernel, by decide⟩ (M.Ok_st0 1) (by decide)).mono ?_
  rintro e w2 ⟨v2, r2, t2, L2, rfl, hI2, hb2, h1, -⟩
  obtain ⟨e1, e2, e3⟩ := h1 rfl
  rw [re_b] at e1 e2 e3
  have e2' : r2 = s4 := bl_inj e2
  subst e1 e2' e3
  obtain ⟨a2, c2, hs2⟩ := owns_shape hI2
  subst hs2
  have HI2 := hide (Ints.of_owns hI2)
  have HO2 := hide ((Sc.new w1 1 ⟨#[]⟩ M.st0).on hb2)
  have HB2 := hide (bstep (unhide HB1) (bstep (balloc w1 (.cells #[.int .i64 1, .string ⟨#[]⟩, .int .i64 0, .bool false, .bool false] 23)) hb2))
  clear hI2 hb2 h1 e2 HB1
  unfold sv M.st0 s4
  go_wp2_with fail
  refine (feed_last 1 s4 M.st0 s2 _ (by omega) ⟨by decide +kernel, by decide⟩ (M.Ok_st0 1) (by decide)).mono ?_
  rintro e w3 ⟨v3, r3, t3, L3, rfl, hI3, hb3, -, h1⟩
  obtain ⟨e1, e2, e3⟩ := h1 rfl
  rw [te_b] at e1
  subst e1 e2 e3
  obtain ⟨a3, c3, hs3⟩ := owns_shape hI3
  subst hs3
  have hst := bstep (balloc w2 (.cells #[.int .i64 1, .string s4, .int .i64 0, .bool false, .bool false] 23)) hb3
  have HI3 := hide (Ints.of_owns hI3)
  have HT3 := hide ((Sc.new w2 1 s4 M.st0).on hb3)
  have HO3 := hide ((unhide HO2).on hst)
  have HI23 := hide ((unhide HI2).below hst)
  have HB3 := hide (bstep (unhide HB2) hst)
  clear hI3 hb3 h1 hst HO2 HI2 HB2
  unfold sv M.st0
  go_wp2_with fail
  refine (sdecode_any 7 s3 _ (by omega) (by decide)).mono ?_
  rintro e w4 ⟨v4, rfl, hI4, hb4⟩
  rw [de_b] at hI4
  obtain ⟨a4, c4, hs4, -⟩ := id hI4
  subst hs4
  have hst := bstep (balloc w3 (.cells #[.int .i64 1, .string ⟨#[]⟩, .int .i64 0, .bool false, .bool false] 23)) hb4
  have HI4 := hide hI4
  have HU4 := hide ((Sc.new w3 1 ⟨#[]⟩ M.st0).on hb4)
  have HT4 := hide ((unhide HT3).on hst)
  have HO4 := hide ((unhide HO3).on hst)
  have HI24 := hide ((unhide HI23).below hst)
  have HI34 := hide ((unhide HI3).below hst)
  have HB4 := hide (bstep (unhide HB3) hst)
  clear hI4 hb4 hst HT3 HO3 HI23 HI3 HB3
  obtain ⟨p0, p1, p2, p3, p4, -, -, -, -, -⟩ := unhide HT4
  have hp := (unhide HT4).lt
  unfold M.st0 at p2 p3 p4
  unfold s4 at p1
  go_wp2_with fail
  refine (check_any 1 s4 M.st0 _ (by decide)).mono ?_
  rintro e w5 ⟨rfl, hb5⟩
  rw [ck_b]
  have HI45 := hide ((unhide HI4).below hb5)
  have HU5 := hide ((unhide HU4).on hb5)
  have HT5 := hide ((unhide HT4).on hb5)
  have HO5 := hide ((unhide HO4).on hb5)
  have HI25 := hide ((unhide HI24).below hb5)
  have HI35 := hide ((unhide HI34).below hb5)
  have HB5 := hide (bstep (unhide HB4) hb5)
  clear hb5 p0 p1 p2 p3 p4 hp HU4 HT4 HO4 HI24 HI34 HB4 HI4
  go_wp2_with fail
  refine (same_any _ ((unhide HI25).below (balloc _ _)) (one_int _ _)).mono ?_
  rintro e w6 ⟨rfl, hb6⟩
  rw [show ([97] == ([97] : List Int)) = true from by decide]
  have hst := bstep (balloc w5 (.cells #[.int .i64 97] 3)) hb6
  have HI46 := hide ((unhide HI45).below hst)
  have HU6 := hide ((unhide HU5).on hst)
  have HT6 := hide ((unhide HT5).on hst)
  have HO6 := hide ((unhide HO5).on hst)
  have HI36 := hide ((unhide HI35).below hst)
  have HB6 := hide (bstep (unhide HB5) hst)
  clear hb6 hst HU5 HT5 HO5 HI25 HI35 HB5 HI45
  obtain ⟨p0, p1, p2, p3, p4, -, -, -, -, -⟩ := unhide HT6
  have hp := (unhide HT6).lt
  unfold s4 at p1
  go_wp2_with fail
  refine (same_any _ ((unhide HI36).below (balloc _ _)) (two_ints _ _ _)).mono ?_
  rintro e w7 ⟨rfl, hb7⟩
  rw [show ([8364, 65533] == ([8364, 65533] : List Int)) = true from by decide]
  have hst := bstep (balloc w6 (.cells #[.int .i64 8364, .int .i64 65533] 3)) hb7
  have HI47 := hide ((unhide HI46).below hst)
  have HU7 := hide ((unhide HU6).on hst)
  have HO7 := hide ((unhide HO6).on hst)
  have HB7 := hide (bstep (unhide HB6) hst)
  clear hb7 hst HU6 HT6 HO6 HI36 HB6 HI46 p0 p1 p2 p3 p4 hp
  obtain ⟨p0, p1, p2, p3, p4, -, -, -, -, -⟩ := unhide HU7
  have hp := (unhide HU7).lt
  obtain ⟨q0, q1, q2, q3, q4, -, -, -, -, -⟩ := unhide HO7
  have hq := (unhide HO7).lt
  unfold M.st0 at p2 p3 p4 q2 q3 q4
  go_wp2_with fail
  refine (same_any _ ((unhide HI47).below (balloc _ _)) (one_int _ _)).mono ?_
  rintro e w8 ⟨rfl, hb8⟩
  rw [show ([65533] == ([65533] : List Int)) = true from by decide]
  have HB8 := hide (bstep (unhide HB7) (bstep (balloc w7 (.cells #[.int .i64 65533] 3)) hb8))
  clear hb8
  go_wp2_with fail
  go_ret
  exact ⟨rfl, unhide HB8⟩
end Go.Proofs.YtaiinjfnkmidbaaGreatDoor

namespace Go.Proofs.YtaiinjfnkmidbaaGreatDoor
open Go.RowKit
set_option linter.unusedVariables false

def InF (W : World) (e : Int) (r : ByteArray) (t : M.St) (p : ByteArray) (last : Bool) (a x f : Value) (wx : World) : Prop :=
  ∃ av cv r' t' L B, a = .slice av L.length cv ∧ x = .pointer (some ⟨B, 0, none⟩) ∧ f = .int .i64 0 ∧ Sc B e r' t' wx ∧ Ints wx (.slice av L.length cv) L ∧ Below W.heap.size W wx ∧
    (last = false → L = (M.RE e t (bl r ++ bl p)).1 ∧ bl r' = (M.RE e t (bl r ++ bl p)).2.2 ∧ t' = (M.RE e t (bl r ++ bl p)).2.1) ∧
    (last = true → L = (M.TE e t (bl r ++ bl p)).1 ∧ r' = ⟨#[]⟩ ∧ t' = M.st0)
theorem InF.a {W w1 : World} {e : Int} {r p r' : ByteArray} {t t' : M.St} {last : Bool} {av : Option Addr} {cv : Nat} {L : List Int} (HW : Below W.heap.size W w1) (HI : w1.ownsRow W.heap.size 3 1 (.slice av L.length cv) L.length (L.map (Value.int .i64)))
    (h1 : last = false → L = (M.RE e t (bl r ++ bl p)).1 ∧ bl r' = (M.RE e t (bl r ++ bl p)).2.2 ∧ t' = (M.RE e t (bl r ++ bl p)).2.1) (h2 : last = true → L = (M.TE e t (bl r ++ bl p)).1 ∧ r' = ⟨#[]⟩ ∧ t' = M.st0) :
    InF W e r t p last (.slice av L.length cv) (.pointer (some ⟨w1.heap.size, 0, none⟩)) (.int .i64 0) (w1.alloc (.cells #[.int .i64 e, .string r', .int .i64 t'.1, .bool t'.2.1, .bool t'.2.2] 23)) :=
  ⟨av, cv, r', t', L, w1.heap.size, rfl, rfl, rfl, Sc.new w1 e r' t', (Ints.of_owns HI).below (balloc _ _), bstep HW (balloc _ _), h1, h2⟩
theorem InF.b {W w1 : World} {e : Int} {r p r' : ByteArray} {t t' : M.St} {last : Bool} {av : Option Addr} {cv : Nat} {L : List Int} (HW : Below W.heap.size W w1) (HR : Rc W.heap.size w1) (HI : w1.ownsRow (W.heap.size + 1) 3 1 (.slice av L.length cv) L.length (L.map (Value.int .i64)))
    (h1 : last = false → L = (M.RE e t (bl r ++ bl p)).1 ∧ bl r' = (M.RE e t (bl r ++ bl p)).2.2 ∧ t' = (M.RE e t (bl r ++ bl p)).2.1) (h2 : last = true → L = (M.TE e t (bl r ++ bl p)).1 ∧ r' = ⟨#[]⟩ ∧ t' = M.st0) :
    InF W e r t p last (.slice av L.length cv) (.pointer (some ⟨W.heap.size, 0, none⟩)) (.int .i64 0) (((((w1.setCell ⟨W.heap.size, 0, none⟩ (.int .i64 e)).setCell ⟨W.heap.size, 1, none⟩ (.string r')).setCell ⟨W.heap.size, 2, none⟩ (.int .i64 t'.1)).setCell ⟨W.heap.size, 3, none⟩ (.bool t'.2.1)).setCell ⟨W.heap.size, 4, none⟩ (.bool t'.2.2)) :=
  ⟨av, cv, r', t', L, W.heap.size, rfl, rfl, rfl, Sc.put HR e r' t', Ints.of_owns (oset5 HI (Nat.lt_succ_self _)), bset5 HW (Nat.le_refl _), h1, h2⟩
theorem M.TE_app (e : Int) (t : M.St) (l m : List Int) : M.TE e t (l ++ m) = ((M.RE e t l).1 ++ (M.TE e (M.RE e t l).2.1 ((M.RE e t l).2.2 ++ m)).1, (M.TE e (M.RE e t l).2.1 ((M.RE e t l).2.2 ++ m)).2) := by
  rw [M.TE_run e t (l ++ m), M.RE_app e t l m, M.TE_run e (M.RE e t l).2.1 ((M.RE e t l).2.2 ++ m)]
  simp [List.append_assoc]
end Go.Proofs.YtaiinjfnkmidbaaGreatDoor

namespace Go.Proofs.YtaiinjfnkmidbaaGreatDoor
open Go.RowKit
set_option linter.unusedVariables false

/-- A front. -/
structure Fr where
  L : ByteArray
  enc : Int
  why : Int
  W : ByteArray
  e : Int
  r : ByteArray
  t : M.St
def Fr.v (f : Fr) : Value := .agg #[.string f.L, .int .i64 f.enc, .int .i64 f.why, .string f.W, .int .i64 f.e, .string f.r, .int .i64 f.t.1, .bool f.t.2.1, .bool f.t.2.2]
/-- The front at the beginning. -/
def Fr.new (L : ByteArray) : Fr := ⟨L, 0, 0, ⟨#[]⟩, 0, ⟨#[]⟩, M.st0⟩
/-- The error of a front, or 0. -/
def Fr.chk (f : Fr) : Int :=
  if 3000 < f.L.size ∨ 3000 < f.W.size then 2 else if ¬ (0 ≤ f.enc ∧ f.enc ≤ 7) then 6 else if ¬ (0 ≤ f.why ∧ f.why ≤ 4) ∨ (f.why = 0 ∧ f.enc ≠ 0) ∨ (f.why ≠ 0 ∧ f.enc = 0) then 4
  else if (f.why = 0 ∧ ¬ (f.e = 0 ∧ f.r.size = 0 ∧ f.t = M.st0)) ∨ (f.why ≠ 0 ∧ (f.W.size ≠ 0 ∨ f.e ≠ f.enc)) then 1
  else if f.why = 0 then (if enF f.L (bl f.W) = true then 4 else 0) else Go.Proofs.YtaiinjfnkmidbaaGreatDoor.chk f.e f.r f.t
/-- A front that has chosen from bytes l: what it has told, and itself. -/
def Fr.got (L : ByteArray) (l : List Int) : Fr := ⟨L, (chI L l).1, (chI L l).2.1, ⟨#[]⟩, (chI L l).1, strOfNums (M.RE (chI L l).1 M.st0 (l.drop (chI L l).2.2.toNat)).2.2, (M.RE (chI L l).1 M.st0 (l.drop (chI L l).2.2.toNat)).2.1⟩
def gotO (L : ByteArray) (l : List Int) : List Int := (M.RE (chI L l).1 M.st0 (l.drop (chI L l).2.2.toNat)).1
/-- What is told of bytes that come, and the front then. -/
def Fr.outs (f : Fr) (p : ByteArray) (last : Bool) : List Int :=
  if f.why = 0 then (if last = true then whI f.L (bl f.W ++ bl p) else if enF f.L (bl f.W ++ bl p) = true then gotO f.L (bl f.W ++ bl p) else [])
  else if last = true then (M.TE f.e f.t (bl f.r ++ bl p)).1 else (M.RE f.e f.t (bl f.r ++ bl p)).1
def Fr.nxt (f : Fr) (p : ByteArray) (last : Bool) : Fr :=
  if last = true then Fr.new f.L
  else if f.why = 0 then (if enF f.L (bl f.W ++ bl p) = true then Fr.got f.L (bl f.W ++ bl p) else ⟨f.L, f.enc, f.why, f.W ++ p, f.e, f.r, f.t⟩)
  else ⟨f.L, f.enc, f.why, f.W, f.e, strOfNums (M.RE f.e f.t (bl f.r ++ bl p)).2.2, (M.RE f.e f.t (bl f.r ++ bl p)).2.1⟩
/-- What a front is behind bytes x, and what it has told. -/
def Infr (L : ByteArray) (x : ByteArray) (f : Fr) (out : List Int) : Prop :=
  (enF L (bl x) = false ∧ f = ⟨L, 0, 0, x, 0, ⟨#[]⟩, M.st0⟩ ∧ out = []) ∨ (enF L (bl x) = true ∧ f = Fr.got L (bl x) ∧ out = gotO L (bl x))
theorem enF_nil (L : ByteArray) : enF L [] = false := by
  unfold enF
  rw [show (M.sn []).1 = 0 from by decide]
  simp
theorem Infr.start (L : ByteArray) : Infr L ⟨#[]⟩ (Fr.new L) [] := .inl ⟨by rw [show bl ⟨#[]⟩ = [] from rfl]; exact enF_nil L, rfl, rfl⟩
theorem chI_ne (L : ByteArray) (l : List Int) : (chI L l).2.1 ≠ 0 := by have := chI_bd L l; omega
theorem rest_byt {e : Int} (he : 1 ≤ e ∧ e ≤ 7) (t : M.St) {l : List Int} (h : ∀ x ∈ l, 0 ≤ x ∧ x ≤ 255) : bl (strOfNums (M.RE e t l).2.2) = (M.RE e t l).2.2 :=
  bl_str _ (by rw [M.RE_rest he]; intro x hx; exact h x (List.mem_of_mem_drop hx))
theorem drop_app {l m : List Int} {k : Int} (h : k ≤ l.length) : (l ++ m).drop k.toNat = l.drop k.toNat ++ m := by
  rw [List.drop_append_of_le_length (by omega)]
theorem byt_drop {x : ByteArray} (k : Nat) : ∀ y ∈ (bl x).drop k, 0 ≤ y ∧ y ≤ 255 := fun y hy => bl_byt x y (List.mem_of_mem_drop hy)
theorem Infr.step {L x : ByteArray} {f : Fr} {out : List Int} (h : Infr L x f out) (p : ByteArray) : Infr L (x ++ p) (f.nxt p false) (out ++ f.outs p false) := by
  unfold Infr
  rw [bl_app]
  rcases h with ⟨he, rfl, rfl⟩ | ⟨he, rfl, rfl⟩
  · unfold Fr.nxt Fr.outs
    simp only [if_true, Bool.false_eq_true, if_false]
    cases hq : enF L (bl x ++ bl p)
    · exact .inl ⟨rfl, by simp, by simp⟩
    · exact .inr ⟨rfl, by simp, by simp⟩
  · have hm := chI_more he (bl p)
    have hb := chI_bd L (bl x)
    refine .inr ⟨enF_more he _, ?_, ?_⟩
    · unfold Fr.nxt Fr.got
      simp only [Bool.false_eq_true, if_false, chI_ne, hm]
      rw [drop_app hb.2.2.2.2, rest_byt hb.1 _ (byt_drop _), M.RE_app _ M.st0 ((bl x).drop (chI L (bl x)).2.2.toNat)]
    · unfold Fr.outs gotO Fr.got
      simp only [Bool.false_eq_true, if_false, chI_ne, hm]
      rw [drop_app hb.2.2.2.2, rest_byt hb.1 _ (byt_drop _), M.RE_app _ M.st0 ((bl x).drop (chI L (bl x)).2.2.toNat)]
theorem Infr.last {L x : ByteArray} {f : Fr} {out : List Int} (h : Infr L x f out) (p : ByteArray) : f.nxt p true = Fr.new L ∧ out ++ f.outs p true = whI L (bl (x ++ p)) := by
  rw [bl_app]
  rcases h with ⟨he, rfl, rfl⟩ | ⟨he, rfl, rfl⟩
  · exact ⟨rfl, by unfold Fr.outs; simp⟩
  · have hm := chI_more he (bl p)
    have hb := chI_bd L (bl x)
    refine ⟨rfl, ?_⟩
    unfold Fr.outs gotO Fr.got whI M.decE
    simp only [if_true, chI_ne, if_false, hm]
    rw [drop_app hb.2.2.2.2, rest_byt hb.1 _ (byt_drop _), M.TE_app _ M.st0 ((bl x).drop (chI L (bl x)).2.2.toNat)]
theorem got_chk {L : ByteArray} {x : ByteArray} (hL : L.size ≤ 3000) : (Fr.got L (bl x)).chk = 0 := by
  have hb := chI_bd L (bl x)
  have hk : Go.Proofs.YtaiinjfnkmidbaaGreatDoor.chk (Fr.got L (bl x)).e (Fr.got L (bl x)).r (Fr.got L (bl x)).t = 0 := by
    rw [chk_ok]
    unfold Fr.got
    simp only
    have hr := rest_byt hb.1 M.st0 (byt_drop (x := x) (chI L (bl x)).2.2.toNat)
    refine ⟨hb.1, ⟨?_, ?_⟩, M.Ok_run hb.1 (M.Ok_st0 _) _⟩
    · rw [hr, strOfNums_size]; exact M.RE_left hb.1 _ _
    · rw [strOfNums_size]; exact M.RE_few hb.1 _ _
  unfold Fr.chk
  rw [hk]
  have hw := chI_ne L (bl x)
  unfold Fr.got
  simp only
  have z : (⟨#[]⟩ : ByteArray).size = 0 := rfl
  rw [if_neg (by rw [z]; omega), if_neg (by omega), if_neg (by omega), if_neg (by rw [z]; rintro (h | h); exact hw h.1; exact h.2.elim (fun q => q rfl) (fun q => q rfl)), if_neg hw]
theorem Infr.chk {L x : ByteArray} {f : Fr} {out : List Int} (h : Infr L x f out) (hL : L.size ≤ 3000) : f.chk = 0 := by
  rcases h with ⟨he, rfl, rfl⟩ | ⟨he, rfl, rfl⟩
  · have := enF_few he
    rw [bl_len] at this
    unfold Fr.chk
    simp only
    have z : (⟨#[]⟩ : ByteArray).size = 0 := rfl
    rw [if_neg (by omega), if_neg (by omega), if_neg (by omega), if_neg (by rw [z]; rintro (h | h); exact h.2 ⟨by trivial, by trivial, by trivial⟩; exact h.1 (by trivial)), he]
    rfl
  · exact got_chk hL
/-- A front that has chosen has chosen as the whole text tells. -/
theorem Infr.chosen {L x : ByteArray} {f : Fr} {out : List Int} (h : Infr L x f out) (p : ByteArray) : f.why = 0 ∨ (f.why = (chI L (bl (x ++ p))).2.1 ∧ f.enc = (chI L (bl (x ++ p))).1) := by
  rcases h with ⟨he, rfl, rfl⟩ | ⟨he, rfl, rfl⟩
  · exact .inl rfl
  · rw [bl_app, chI_more he]; exact .inr ⟨rfl, rfl⟩
theorem nxt_wait {L W p : ByteArray} (hE : enF L (bl W ++ bl p) = false) : (⟨L, 0, 0, W, 0, ⟨#[]⟩, M.st0⟩ : Fr).nxt p false = ⟨L, 0, 0, W ++ p, 0, ⟨#[]⟩, M.st0⟩ := by
  unfold Fr.nxt
  rw [if_neg (by simp), if_pos rfl, if_neg (by simp [hE])]
theorem outs_wait {L W p : ByteArray} (hE : enF L (bl W ++ bl p) = false) : (⟨L, 0, 0, W, 0, ⟨#[]⟩, M.st0⟩ : Fr).outs p false = [] := by
  unfold Fr.outs
  rw [if_pos rfl, if_neg (by simp), if_neg (by simp [hE])]
theorem nxt_on {f : Fr} (h : f.why ≠ 0) {p r' : ByteArray} {t' : M.St} (h1 : bl r' = (M.RE f.e f.t (bl f.r ++ bl p)).2.2) (h2 : t' = (M.RE f.e f.t (bl f.r ++ bl p)).2.1) : f.nxt p false = ⟨f.L, f.enc, f.why, f.W, f.e, r', t'⟩ := by
  unfold Fr.nxt
  rw [if_neg (by simp), if_neg h, ← h1, ← h2, str_bl]
theorem outs_on {f : Fr} (h : f.why ≠ 0) (p : ByteArray) : f.outs p false = (M.RE f.e f.t (bl f.r ++ bl p)).1 := by
  unfold Fr.outs; rw [if_neg h, if_neg (by simp)]
theorem outs_end {f : Fr} (h : f.why ≠ 0) (p : ByteArray) : f.outs p true = (M.TE f.e f.t (bl f.r ++ bl p)).1 := by
  unfold Fr.outs; rw [if_neg h, if_pos rfl]
theorem nxt_got {L W p q r' : ByteArray} {t' : M.St} {n y m : Int} (hE : enF L (bl W ++ bl p) = true) (hc : chI L (bl W ++ bl p) = (n, y, m)) (hq : bl q = (bl W ++ bl p).drop m.toNat) (h1 : bl r' = (M.RE n M.st0 (bl ⟨#[]⟩ ++ bl q)).2.2) (h2 : t' = (M.RE n M.st0 (bl ⟨#[]⟩ ++ bl q)).2.1) :
    (⟨L, 0, 0, W, 0, ⟨#[]⟩, M.st0⟩ : Fr).nxt p false = ⟨L, n, y, ⟨#[]⟩, n, r', t'⟩ := by
  rw [show bl ⟨#[]⟩ = [] from rfl, List.nil_append, hq] at h1 h2
  unfold Fr.nxt
  rw [if_neg (by simp), if_pos rfl, if_pos hE]
  unfold Fr.got
  rw [hc]
  dsimp only
  rw [← h1, ← h2, str_bl]
theorem outs_got {L W p q : ByteArray} {n y m : Int} (hE : enF L (bl W ++ bl p) = true) (hc : chI L (bl W ++ bl p) = (n, y, m)) (hq : bl q = (bl W ++ bl p).drop m.toNat) :
    (⟨L, 0, 0, W, 0, ⟨#[]⟩, M.st0⟩ : Fr).outs p false = (M.RE n M.st0 (bl ⟨#[]⟩ ++ bl q)).1 := by
  rw [show bl ⟨#[]⟩ = [] from rfl, List.nil_append, hq]
  unfold Fr.outs
  rw [if_pos rfl, if_neg (by simp), if_pos hE]
  unfold gotO
  rw [hc]
theorem outs_whole {L W p q : ByteArray} {n y m : Int} (hc : chI L (bl W ++ bl p) = (n, y, m)) (hq : bl q = (bl W ++ bl p).drop m.toNat) :
    (⟨L, 0, 0, W, 0, ⟨#[]⟩, M.st0⟩ : Fr).outs p true = (M.TE n M.st0 (bl ⟨#[]⟩ ++ bl q)).1 := by
  rw [show bl ⟨#[]⟩ = [] from rfl, List.nil_append, hq]
  unfold Fr.outs
  rw [if_pos rfl, if_pos rfl]
  unfold whI M.decE
  rw [hc]
end Go.Proofs.YtaiinjfnkmidbaaGreatDoor

namespace Go.Proofs.YtaiinjfnkmidbaaGreatDoor
open Go.RowKit
set_option linter.unusedVariables false

set_option maxHeartbeats 400000 in
set_option maxRecDepth 100000 in
theorem tooLong_no (s : ByteArray) (w : World) (hs : s.size ≤ 3000) : Calls Tryz.prog 15 #[.string s] w fun e w' => e = .returned (.int .i64 0) ∧ w' = w := by
  go_enter Tryz.func15, Tryz.ntmps15
  go_wp2
  go_ret
  exact ⟨rfl, rfl⟩
set_option maxHeartbeats 400000 in
set_option maxRecDepth 100000 in
theorem tooLong_yes (s : ByteArray) (w : World) (hs : 3000 < s.size) (hm : s.size ≤ maxLen) : Calls Tryz.prog 15 #[.string s] w fun e w' => e = .returned (.int .i64 2) ∧ w' = w := by
  unfold maxLen at hm
  go_enter Tryz.func15, Tryz.ntmps15
  go_wp2
  go_ret
  exact ⟨rfl, rfl⟩
set_option maxHeartbeats 400000 in
set_option maxRecDepth 100000 in
theorem isScalar_any (n : Int) (w : World) : Calls Tryz.prog 80 #[.int .i64 n] w fun e w' => e = .returned (.bool (M.sclr n)) ∧ w' = w := by
  have HS : Hid (M.sclr n = ((decide (0 ≤ n) && decide (n ≤ 55295)) || (decide (57344 ≤ n) && decide (n ≤ 1114111)))) := by
    show M.sclr n = _
    rw [Bool.eq_iff_iff]; simp [M.sclr]; omega
  by_cases h : 0 ≤ n ∧ n ≤ 55295
  · have hd : (decide (0 ≤ n) && decide (n ≤ 55295)) = true := by simp; omega
    go_enter Tryz.func80, Tryz.ntmps80
    go_wp2_with (go_at_call 51; refine (between_any _ _ _ _).mono ?_; rintro e w1 ⟨rfl, hw⟩; replace hw := hw.symm; subst hw)
    go_ret
    exact ⟨ret_bool (by rw [unhide HS, hd]; simp), rfl⟩
  · have hd : (decide (0 ≤ n) && decide (n ≤ 55295)) = false := by simp; omega
    go_enter Tryz.func80, Tryz.ntmps80
    go_wp2_with (go_at_call 51; refine (between_any _ _ _ _).mono ?_; rintro e w1 ⟨rfl, hw⟩; replace hw := hw.symm; subst hw)
    go_ret
    exact ⟨ret_bool (by rw [unhide HS, hd]; simp), rfl⟩
set_option maxHeartbeats 400000 in
set_option maxRecDepth 100000 in
theorem check_many (ao : Option Addr) (len cap : Nat) (w : World) (h : 3000 < len) (hm : len ≤ maxLen) :
    Calls Tryz.prog 33 #[.slice ao len cap] w fun e w' => e = .returned (.int .i64 2) ∧ w' = w := by
  unfold maxLen at hm
  go_enter Tryz.func33, Tryz.ntmps33
  go_wp2
  go_ret
  exact ⟨rfl, rfl⟩
/-- What CheckPoints answers of at most 3000 integers. -/
def chkRes (xs : List Int) : Value := if xs.all M.sclr then .int .i64 0 else .int .i64 3
theorem chkRes_yes {xs : List Int} (h : xs.all M.sclr = true) : chkRes xs = .int .i64 0 := by unfold chkRes; rw [if_pos h]
theorem chkRes_no {xs : List Int} (h : xs.all M.sclr = false) : chkRes xs = .int .i64 3 := by unfold chkRes; rw [if_neg (by simp [h])]
set_option maxHeartbeats 400000 in
set_option maxRecDepth 100000 in
theorem check_none (ao : Option Addr) (cap : Nat) (w : World) : Calls Tryz.prog 33 #[.slice ao 0 cap] w fun e w' => e = .returned (.int .i64 0) ∧ w' = w := by
  go_enter Tryz.func33, Tryz.ntmps33
  go_wp2
  refine wp_loop_rounds 1 ?_
  rw [rounds_succ]
  go_wp2
  go_ret
  exact ⟨rfl, rfl⟩
set_option maxHeartbeats 400000 in
set_option maxRecDepth 100000 in
theorem check_some (b off cap : Nat) (xs : List Int) (w : World) (h0 : xs ≠ []) (h : xs.length ≤ 3000) (hc : ∀ i, i < xs.length → w.cell? ⟨b, off + i, none⟩ = some (.int .i64 (xs.getD i 0))) :
    Calls Tryz.prog 33 #[.slice (some ⟨b, off, none⟩) xs.length cap] w fun e w' => e = .returned (chkRes xs) ∧ w' = w := by
  have hlen : 0 < xs.length := List.length_pos_iff.2 h0
  have HC := hide hc
  clear hc h0
  go_enter Tryz.func33, Tryz.ntmps33
  go_wp2_with fail
  go_loop [3] (fun i => ∃ k : Nat, k ≤ xs.length ∧ i = .int .i64 k ∧ Hid ((xs.take k).all M.sclr = true)) (fun i => xs.length - (intOf i).toNat)
  case atStart => exact ⟨0, by omega, rfl, rfl⟩
  case round =>
    obtain ⟨k, hk, rfl, HA⟩ := hrel
    by_cases hlt : k < xs.length
    · have hcell := unhide HC k hlt
      obtain ⟨p, HP⟩ : ∃ p, Hid (xs.getD k 0 = p) := ⟨_, rfl⟩
      rw [unhide HP] at hcell
      obtain ⟨q, HQ⟩ : ∃ q, Hid (M.sclr p = q) := ⟨_, rfl⟩
      go_wp2_with fail
      refine (isScalar_any _ _).mono ?_
      rintro e w1 ⟨rfl, hw⟩
      replace hw := hw.symm
      subst hw
      rw [unhide HQ]
      cases q
      · go_wp2_with fail
        go_ret
        have : xs.all M.sclr = false := by
          rw [List.all_eq_false]
          refine ⟨xs.getD k 0, ?_, by rw [unhide HP, unhide HQ]; simp⟩
          simp [hlt]
        refine ⟨?_, rfl⟩
        rw [chkRes_no this]; rfl
      · have HA' : Hid ((xs.take (k + 1)).all M.sclr = true) := by
          show (xs.take (k + 1)).all M.sclr = true
          rw [take_snoc xs k hlt, List.all_append, unhide HA, unhide HP]
          simpa using unhide HQ
        go_wp2_with fail
        go_round
        case rel => exact ⟨k + 1, by omega, by go_num, HA'⟩
        case measure => simp [intOf]; omega
    · go_wp2_with fail
      go_ret
      have := unhide HA
      rw [List.take_of_length_le (by omega)] at this
      refine ⟨?_, rfl⟩
      rw [chkRes_yes this]; rfl
theorem pcheck_any {v : Value} {xs : List Int} (w : World) (hx : Ints w v xs) (h : xs.length ≤ 3000) :
    Calls Tryz.prog 33 #[v] w fun e w' => e = .returned (chkRes xs) ∧ w' = w := by
  obtain ⟨ao, cap, rfl, hm, -, hx⟩ := hx
  by_cases h0 : xs = []
  · subst h0; exact check_none ao cap w
  · rcases hx with hx | ⟨b, off, rfl, hc⟩
    · exact absurd hx h0
    · exact check_some b off cap xs w h0 h hc
set_option maxHeartbeats 400000 in
set_option maxRecDepth 100000 in
theorem intsAre_ok {v u : Value} {xs : List Int} (w : World) (hx : Ints w v xs) (hu : Ints w u xs) :
    Calls Tryz.prog 21 #[v, .int .i64 0, .int .i64 0, u] w fun e w' => e = .returned (.bool true) ∧ Below w.heap.size w w' := by
  obtain ⟨ao, cap, hv, -⟩ := id hx
  obtain ⟨ao', cap', hv', -⟩ := id hu
  subst hv hv'
  have HX := hide hx
  have HU := hide hu
  clear hx hu
  go_enter Tryz.func21, Tryz.ntmps21
  go_wp2_with fail
  refine (same_any _ (unhide HX) (unhide HU)).mono ?_
  rintro e w1 ⟨rfl, hb⟩
  rw [show (xs == xs) = true from by simp]
  go_wp2_with fail
  go_ret
  exact ⟨rfl, hb⟩
end Go.Proofs.YtaiinjfnkmidbaaGreatDoor
