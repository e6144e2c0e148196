/- Laws that the statements of this seat lean on, part 3 (RH MathO MathV5 MathW5 RJ RK5 MathP MathX5 MathX MathY MathF6 SX U8 UA UB): each a contract of a function, or a plain fact; conditions stand at each. -/
import Derived.BigQuiet
import Derived.Deep.CutBlock
import Derived.Deep.DeepCutAuto
import Derived.Deep.QuietTactic
import Derived.Laws.BitsLemmas
import Derived.ProofKit
import Derived.WalkKit
import Derived.WalkSmall
import Derived.Test.YtaiinjfnkmidbaaGreatDoorQD2
namespace Go.Proofs.YtaiinjfnkmidbaaGreatDoor
open Go.RowKit
set_option linter.unusedVariables false

/-- The cells of a table. -/
def tabCells (l : List (ByteArray × Int)) : Array Value := (l.flatMap fun x => [.string x.1, .int .i64 x.2]).toArray
/-- The table l lies at block b. -/
def Tab (w : World) (b : Nat) (l : List (ByteArray × Int)) : Prop :=
  ∀ i (h : i < l.length), w.cell? ⟨b, i * 2, none⟩ = some (.string l[i].1) ∧ w.cell? ⟨b, i * 2 + 1, none⟩ = some (.int .i64 l[i].2)

theorem tabCells_at : ∀ (l : List (ByteArray × Int)) (i : Nat) (h : i < l.length), (l.flatMap fun x => [Value.string x.1, Value.int .i64 x.2])[i * 2]? = some (.string l[i].1) ∧ (l.flatMap fun x => [Value.string x.1, Value.int .i64 x.2])[i * 2 + 1]? = some (.int .i64 l[i].2) := by
  intro l
  induction l with
  | nil => intro i h; simp at h
  | cons x t ih =>
    intro i h
    cases i with
    | zero => simp
    | succ i =>
      have := ih i (by simpa using h)
      have e1 : (i + 1) * 2 = i * 2 + 2 := by omega
      rw [e1]
      simpa [List.flatMap_cons] using this

theorem Tab.new (w : World) (l : List (ByteArray × Int)) (t : TypeId) : Tab (w.alloc (.cells (tabCells l) t)) w.heap.size l := by
  intro i h
  have := tabCells_at l i h
  rw [World.cell?_alloc_at _ _ _ _ rfl, World.cell?_alloc_at _ _ _ _ rfl]
  unfold tabCells
  simpa using this
theorem Tab.below {w w' : World} {b : Nat} {l : List (ByteArray × Int)} (h : Tab w b l) (hb : Below w.heap.size w w') : Tab w' b l := by
  intro i hi
  obtain ⟨h1, h2⟩ := h i hi
  exact ⟨(hb.cell (p := ⟨b, i * 2, none⟩) (World.block_lt_of_cell? w _ h1)).trans h1, (hb.cell (p := ⟨b, i * 2 + 1, none⟩) (World.block_lt_of_cell? w _ h2)).trans h2⟩

def labs : List (ByteArray × Int) := [(⟨#[117, 110, 105, 99, 111, 100, 101, 45, 49, 45, 49, 45, 117, 116, 102, 45, 56]⟩, 1), (⟨#[117, 116, 102, 45, 56]⟩, 1), (⟨#[117, 116, 102, 56]⟩, 1), (⟨#[117, 116, 102, 45, 49, 54]⟩, 2), (⟨#[117, 116, 102, 45, 49, 54, 108, 101]⟩, 2), (⟨#[117, 110, 105, 99, 111, 100, 101]⟩, 2), (⟨#[117, 116, 102, 45, 49, 54, 98, 101]⟩, 3), (⟨#[117, 110, 105, 99, 111, 100, 101, 102, 102, 102, 101]⟩, 3), (⟨#[119, 105, 110, 100, 111, 119, 115, 45, 49, 50, 53, 50]⟩, 4), (⟨#[99, 112, 49, 50, 53, 50]⟩, 4), (⟨#[105, 115, 111, 45, 56, 56, 53, 57, 45, 49]⟩, 4), (⟨#[108, 97, 116, 105, 110, 49]⟩, 4), (⟨#[97, 115, 99, 105, 105]⟩, 4), (⟨#[117, 115, 45, 97, 115, 99, 105, 105]⟩, 4), (⟨#[108, 49]⟩, 4), (⟨#[120, 45, 117, 115, 101, 114, 45, 100, 101, 102, 105, 110, 101, 100]⟩, 5), (⟨#[105, 115, 111, 45, 50, 48, 50, 50, 45, 106, 112]⟩, 6), (⟨#[99, 115, 105, 115, 111, 50, 48, 50, 50, 106, 112]⟩, 6), (⟨#[114, 101, 112, 108, 97, 99, 101, 109, 101, 110, 116]⟩, 7), (⟨#[104, 122, 45, 103, 98, 45, 50, 51, 49, 50]⟩, 7), (⟨#[105, 115, 111, 45, 50, 48, 50, 50, 45, 107, 114]⟩, 7), (⟨#[105, 115, 111, 45, 50, 48, 50, 50, 45, 99, 110]⟩, 7)]
set_option maxHeartbeats 1000000 in
set_option maxRecDepth 100000 in
theorem Labels_any (w : World) : Calls Tryz.prog 75 #[] w fun e w' => e = .returned (.slice (some ⟨w.heap.size, 0, none⟩) 22 22) ∧ w' = w.alloc (.cells (tabCells labs) 103) := by
  go_enter Tryz.func75, Tryz.ntmps75
  go_wp2
  go_ret
  exact ⟨rfl, rfl⟩

theorem tr_size (s : ByteArray) (hs : s.size ≤ 3000) : (strOfNums (trI (bl s))).size ≤ 3000 := by
  rw [strOfNums_size]; have := tr_len (bl s); rw [bl_len] at this; omega
/-- The number that a text's label has, or 0. -/
def findI (s : ByteArray) : Int := lk labs (strOfNums (fdI (trI (bl s))))

theorem ftrOf_any (s : ByteArray) (w : World) (hs : s.size ≤ 3000) :
    Calls Tryz.prog 110 #[.string (strOfNums (trI (bl s)))] w fun e w' => e = .returned (.string (strOfNums (fdI (trI (bl s))))) ∧ Below w.heap.size w w' := by
  have := foldOf_any (strOfNums (trI (bl s))) w (tr_size s hs)
  rw [bl_str _ (tr_byt (bl_byt s))] at this
  exact this

set_option maxHeartbeats 1000000 in
set_option maxRecDepth 100000 in
theorem findOf_any (s : ByteArray) (w : World) (hs : s.size ≤ 3000) :
    Calls Tryz.prog 55 #[.string s] w fun e w' => e = .returned (.int .i64 (findI s)) ∧ Below w.heap.size w w' := by
  have HT := hide (fun w => trimOf_any s w hs)
  have HF := hide (fun w => ftrOf_any s w hs)
  unfold findI
  generalize strOfNums (fdI (trI (bl s))) = n at *
  generalize strOfNums (trI (bl s)) = t at *
  go_enter Tryz.func55, Tryz.ntmps55
  go_wp2_with fail
  refine (unhide HT _).mono ?_
  rintro e w1 ⟨rfl, hw⟩
  replace hw := hw.symm
  subst hw
  go_wp2_with fail
  refine (unhide HF _).mono ?_
  rintro e w2 ⟨rfl, hb2⟩
  go_wp2_with fail
  refine (Labels_any _).mono ?_
  rintro e w3 ⟨rfl, hw⟩
  have hT : Tab w3 w2.heap.size labs := by rw [hw]; exact Tab.new _ _ _
  have hb3 : Below w2.heap.size w2 w3 := by rw [hw]; exact balloc _ _
  clear hw HT HF
  have HT := hide hT
  have HB := hide (bstep hb2 hb3)
  clear hT hb2 hb3
  obtain ⟨l, Hl⟩ : ∃ l, Hid (labs = l) := ⟨labs, rfl⟩
  have hlen : l.length = 22 := by rw [← unhide Hl]; rfl
  rw [unhide Hl] at HT
  go_wp2_with fail
  go_loop [4] (fun i => ∃ k : Nat, k ≤ l.length ∧ i = .int .i64 k ∧ Hid (lk labs n = lk (l.drop k) n)) (fun i => l.length - (intOf i).toNat)
  case atStart => exact ⟨0, by omega, rfl, by rw [unhide Hl]; exact rfl⟩
  case round =>
    obtain ⟨k, hk, rfl, HL⟩ := hrel
    by_cases hlt : k < l.length
    · obtain ⟨c1, c2⟩ := unhide HT k hlt
      have HD : Hid (lk (l.drop k) n = if (l[k].1 == n) then l[k].2 else lk (l.drop (k + 1)) n) := by
        show _ = _
        rw [List.drop_eq_getElem_cons hlt]; rfl
      obtain ⟨la, HA⟩ : ∃ la, Hid (l[k].1 = la) := ⟨l[k].1, rfl⟩
      obtain ⟨lb, HB'⟩ : ∃ lb, Hid (l[k].2 = lb) := ⟨l[k].2, rfl⟩
      rw [unhide HA] at c1 HD
      rw [unhide HB'] at c2 HD
      have hk22 : k < 22 := by omega
      have HQ0 := hide (beq_toListBytes la n)
      obtain ⟨q, HQ⟩ : ∃ q, Hid ((la == n) = q) := ⟨(la == n), rfl⟩
      have hq : (la.toList == n.toList) = q := by rw [← unhide HQ0]; exact unhide HQ
      rw [unhide HQ] at HD
      cases q
      · have HL' : Hid (lk labs n = lk (l.drop (k + 1)) n) := by
          show _ = _
          rw [unhide HL, unhide HD]; simp
        clear HD
        go_wp2_with fail
        go_round
        case rel => exact ⟨k + 1, by omega, by go_num, HL'⟩
        case measure => simp [intOf]; omega
      · have HL' : Hid (lk labs n = lb) := by
          show _ = _
          rw [unhide HL, unhide HD]; simp
        clear HD
        go_wp2_with fail
        go_ret
        exact ⟨by rw [unhide HL']; rfl, unhide HB⟩
    · have ek : k = l.length := by omega
      have HL' : Hid (lk labs n = 0) := by
        show _ = _
        rw [unhide HL, ek, List.drop_length]; rfl
      have hk22 : ¬ k < 22 := by omega
      go_wp2_with fail
      go_ret
      exact ⟨by rw [unhide HL']; rfl, unhide HB⟩

end Go.Proofs.YtaiinjfnkmidbaaGreatDoor

namespace Go.Proofs.YtaiinjfnkmidbaaGreatDoor

def pSemi (c : Int) : Bool := !(wh c || c == 59)
/-- The letters of charset. -/
def csL : List Int := [99, 104, 97, 114, 115, 101, 116]
def fnd (l : List Int) : Int := findI (strOfNums l)
/-- The label behind a charset, from a place on: its encoding. -/
def chs : Nat → List Int → Nat → Int
  | 0, _, _ => 0
  | n + 1, l, k =>
    if l.length ≤ k then 0 else if bgn l k csL = false then chs n l (k + 1) else
    if l.length ≤ run wh l (k + 7) ∨ l.getD (run wh l (k + 7)) 0 ≠ 61 then chs n l (run wh l (k + 7)) else
    if run wh l (run wh l (k + 7) + 1) < l.length ∧ (l.getD (run wh l (run wh l (k + 7) + 1)) 0 = 34 ∨ l.getD (run wh l (run wh l (k + 7) + 1)) 0 = 39) then
      if l.length ≤ run (pNot (l.getD (run wh l (run wh l (k + 7) + 1)) 0)) l (run wh l (run wh l (k + 7) + 1) + 1) then 0
      else fnd (cut l (run wh l (run wh l (k + 7) + 1) + 1) (run (pNot (l.getD (run wh l (run wh l (k + 7) + 1)) 0)) l (run wh l (run wh l (k + 7) + 1) + 1)))
    else fnd (cut l (run wh l (run wh l (k + 7) + 1)) (run pSemi l (run wh l (run wh l (k + 7) + 1))))
def chsF (l : List Int) (k : Nat) : Int := chs (l.length + 1 - k) l k
def chsI (l : List Int) : Int := chsF l 0
theorem bgn_le {l : List Int} {k : Nat} {m : List Int} (h : bgn l k m = true) : k + m.length ≤ l.length := (of_decide_eq_true h).1
theorem chs_more : ∀ (n m : Nat) (l : List Int) (k : Nat), k ≤ l.length → l.length + 1 - k ≤ n → l.length + 1 - k ≤ m → chs n l k = chs m l k
  | 0, _, l, k, hk, hn, _ => by omega
  | n + 1, 0, l, k, hk, _, hm => by omega
  | n + 1, m + 1, l, k, hk, hn, hm => by
    unfold chs
    split
    · rfl
    · split
      · exact chs_more n m l (k + 1) (by omega) (by omega) (by omega)
      · rename_i h1 h2
        have hb : k + 7 ≤ l.length := bgn_le (l := l) (k := k) (m := csL) (by simpa using h2)
        have g1 := run_ge wh l (k + 7)
        have e1 := run_le wh l hb
        split
        · exact chs_more n m l _ e1 (by omega) (by omega)
        · rfl
theorem chsF_end {l : List Int} {k : Nat} (hk : k = l.length) : chsF l k = 0 := by
  subst hk
  unfold chsF
  rw [show l.length + 1 - l.length = 0 + 1 from by omega]
  unfold chs
  rw [if_pos (Nat.le_refl _)]
theorem chsF_at {l : List Int} {k : Nat} (hk : k < l.length) : chsF l k = chs ((l.length - k) + 1) l k := by
  unfold chsF; rw [show l.length + 1 - k = (l.length - k) + 1 from by omega]
theorem chsF_no {l : List Int} {k : Nat} (hk : k < l.length) (h : bgn l k csL = false) : chsF l k = chsF l (k + 1) := by
  rw [chsF_at hk]
  unfold chs
  rw [if_neg (by omega), if_pos h]
  exact chs_more _ _ l (k + 1) (by omega) (by omega) (by omega)
theorem chsF_none {l : List Int} {k a1 : Nat} (hk : k < l.length) (h : bgn l k csL = true) (h1 : run wh l (k + 7) = a1) (h' : l.length ≤ a1 ∨ l.getD a1 0 ≠ 61) : chsF l k = chsF l a1 := by
  have hb : k + 7 ≤ l.length := bgn_le h
  have g1 := run_ge wh l (k + 7)
  have e1 := run_le wh l hb
  rw [chsF_at hk]
  unfold chs
  subst h1
  rw [if_neg (by omega), if_neg (by simp [h]), if_pos h']
  exact chs_more _ _ l _ e1 (by omega) (by omega)
theorem chsF_quote {l : List Int} {k a1 a2 a3 : Nat} (hk : k < l.length) (h : bgn l k csL = true) (h1 : run wh l (k + 7) = a1) (h' : ¬ (l.length ≤ a1 ∨ l.getD a1 0 ≠ 61)) (h2 : run wh l (a1 + 1) = a2) (hq : a2 < l.length ∧ (l.getD a2 0 = 34 ∨ l.getD a2 0 = 39)) (h3 : run (pNot (l.getD a2 0)) l (a2 + 1) = a3) :
    chsF l k = if l.length ≤ a3 then 0 else fnd (cut l (a2 + 1) a3) := by
  rw [chsF_at hk]
  unfold chs
  subst h1; subst h2; subst h3
  rw [if_neg (by omega), if_neg (by simp [h]), if_neg h', if_pos hq]
theorem chsF_bare {l : List Int} {k a1 a2 a3 : Nat} (hk : k < l.length) (h : bgn l k csL = true) (h1 : run wh l (k + 7) = a1) (h' : ¬ (l.length ≤ a1 ∨ l.getD a1 0 ≠ 61)) (h2 : run wh l (a1 + 1) = a2) (hq : ¬ (a2 < l.length ∧ (l.getD a2 0 = 34 ∨ l.getD a2 0 = 39))) (h3 : run pSemi l a2 = a3) :
    chsF l k = fnd (cut l a2 a3) := by
  rw [chsF_at hk]
  unfold chs
  subst h1; subst h2; subst h3
  rw [if_neg (by omega), if_neg (by simp [h]), if_neg h', if_neg hq]
theorem pSemi_n {c : Int} (h : wh c = false) (h' : (c == 59) = false) : pSemi c = true := by unfold pSemi; rw [h, h']; rfl
theorem pSemi_w {c : Int} (h : wh c = true) : pSemi c = false := by unfold pSemi; rw [h]; rfl
end Go.Proofs.YtaiinjfnkmidbaaGreatDoor

namespace Go.Proofs.YtaiinjfnkmidbaaGreatDoor

/-- Letters and digits of plain names and values. -/
def pl (c : Int) : Bool := decide ((97 ≤ c ∧ c ≤ 122) ∨ (48 ≤ c ∧ c ≤ 57) ∨ c = 45)
end Go.Proofs.YtaiinjfnkmidbaaGreatDoor

namespace Go.Proofs.YtaiinjfnkmidbaaGreatDoor

end Go.Proofs.YtaiinjfnkmidbaaGreatDoor

namespace Go.Proofs.YtaiinjfnkmidbaaGreatDoor
open Go.RowKit
set_option linter.unusedVariables false

theorem cs_bl : bl ⟨#[99, 104, 97, 114, 115, 101, 116]⟩ = csL := by decide
set_option maxHeartbeats 12800000 in
set_option maxRecDepth 100000 in
theorem charsetOf_any (s : ByteArray) (w : World) (hs : s.size ≤ 3000) :
    Calls Tryz.prog 171 #[.string s] w fun e w' => e = .returned (.int .i64 (chsI (bl s))) ∧ Below w.heap.size w w' := by
  have hl := bl_len s
  have HBG := hide (fun (k : Nat) (hk : k ≤ s.size) (w : World) => beginsAt_any s k ⟨#[99, 104, 97, 114, 115, 101, 116]⟩ w hk hs (by decide))
  rw [cs_bl] at HBG
  go_enter Tryz.func171, Tryz.ntmps171
  go_wp2_with fail
  go_loopw [3] (fun i wr => ∃ k : Nat, i = .int .i64 k ∧ k ≤ s.size ∧ Below w.heap.size w wr ∧ Hid (chsF (bl s) k = chsI (bl s))) (fun i _ => s.size - (intOf i).toNat)
  case atStart => exact ⟨0, rfl, by omega, Below.refl _ _, hide rfl⟩
  case round =>
    obtain ⟨K, rfl, hK, hB, HC⟩ := hrel
    have HB := hide hB
    clear hB
    by_cases hKl : K < s.size
    · have HG := hide (unhide HBG K hK)
      cases hb : bgn (bl s) K csL
      · rw [hb] at HG
        have HC' : Hid (chsF (bl s) (K + 1) = chsI (bl s)) := hide (by rw [← chsF_no (by omega) hb, unhide HC])
        go_wp2_with fail
        refine (unhide HG _).mono ?_
        rintro e w1 ⟨rfl, hb1⟩
        have HB1 := hide (bstep (unhide HB) hb1)
        clear hb1
        go_wp2_with fail
        go_roundw
        case rel => exact ⟨K + 1, by go_num, by omega, unhide HB1, HC'⟩
        case measure => simp [intOf]; omega
      · rw [hb] at HG
        have hb7 : K + 7 ≤ s.size := by have := bgn_le hb; rw [hl] at this; exact this
        have HBG1 := hide hb
        clear hb
        go_wp2_with fail
        refine (unhide HG _).mono ?_
        rintro e w1 ⟨rfl, hb1⟩
        have HB1 := hide (bstep (unhide HB) hb1)
        clear hb1
        go_upto_block 2 with fail
        go_cut [3] (fun i wx => i = .int .i64 (run wh (bl s) (K + 7) : Int) ∧ wx = w1)
        case first =>
          go_wp2_with fail
          go_loop [3] (fun i => ∃ k : Nat, i = .int .i64 k ∧ k ≤ s.size ∧ Hid (run wh (bl s) k = run wh (bl s) (K + 7))) (fun i => s.size - (intOf i).toNat)
          case atStart => exact ⟨K + 7, by go_num, by omega, hide rfl⟩
          case round =>
            obtain ⟨k, rfl, hk, HR⟩ := hrel
            by_cases hlt : k < s.size
            · have hcb := u8_lt s hlt
              have HG := hide (bl_at hlt)
              obtain ⟨c, hcc⟩ : ∃ c : Int, (s[k].toNat : Int) = c := ⟨_, rfl⟩
              rw [hcc] at hcb HG
              have W := isWhite_any c
              cases hw : wh c
              · rw [hw] at W
                have HE : Hid (run wh (bl s) (K + 7) = k) := hide (by rw [← unhide HR, run_stop (by omega) (by rw [unhide HG]; exact hw)])
                go_wp2_with fail
                refine (W _ hcb).mono ?_
                rintro e wz ⟨rfl, hwz⟩
                replace hwz := hwz.symm
                subst hwz
                go_wp2_with fail
                go_meet
                case rel => exact ⟨by rw [unhide HE], rfl⟩
              · rw [hw] at W
                have HR' : Hid (run wh (bl s) (k + 1) = run wh (bl s) (K + 7)) := hide (by rw [← run_step (by omega) (by rw [unhide HG]; exact hw), unhide HR])
                go_wp2_with fail
                refine (W _ hcb).mono ?_
                rintro e wz ⟨rfl, hwz⟩
                replace hwz := hwz.symm
                subst hwz
                go_wp2_with fail
                go_round
                case rel => exact ⟨k + 1, by go_num, by omega, HR'⟩
                case measure => simp [intOf]; omega
            · have HE : Hid (run wh (bl s) (K + 7) = k) := hide (by rw [← unhide HR, run_end (by omega)])
              go_wp2_with fail
              go_meet
              case rel => exact ⟨by rw [unhide HE], rfl⟩
        obtain ⟨rfl, hwc⟩ := hcut
        replace hwc := hwc.symm
        subst hwc
        have ha1 := run_le wh (bl s) (i := K + 7) (by omega)
        have ga1 := run_ge wh (bl s) (K + 7)
        obtain ⟨a1, HA1⟩ : ∃ a1, Hid (run wh (bl s) (K + 7) = a1) := ⟨_, hide rfl⟩
        rw [unhide HA1] at ha1 ga1 ⊢
        by_cases hlt1 : a1 < s.size
        · have hcb1 := u8_lt s hlt1
          have HG1 := hide (bl_at hlt1)
          obtain ⟨c1, hcc1⟩ : ∃ c : Int, (s[a1].toNat : Int) = c := ⟨_, rfl⟩
          rw [hcc1] at hcb1 HG1
          have hne1 : ((a1 : Int) == (s.size : Int)) = false := by simp; omega
          by_cases h61 : c1 = 61
          · subst h61
            have HN1 : Hid (¬ ((bl s).length ≤ a1 ∨ (bl s).getD a1 0 ≠ 61)) := hide (by rw [unhide HG1]; omega)
            go_upto_block 4 with fail
            go_cut [3] (fun i wx => i = .int .i64 (run wh (bl s) (a1 + 1) : Int) ∧ wx = w1)
            case first =>
              go_wp2_with fail
              go_loop [3] (fun i => ∃ k : Nat, i = .int .i64 k ∧ k ≤ s.size ∧ Hid (run wh (bl s) k = run wh (bl s) (a1 + 1))) (fun i => s.size - (intOf i).toNat)
              case atStart => exact ⟨a1 + 1, by go_num, by omega, hide rfl⟩
              case round =>
                obtain ⟨k, rfl, hk, HR⟩ := hrel
                by_cases hlt : k < s.size
                · have hcb := u8_lt s hlt
                  have HG := hide (bl_at hlt)
                  obtain ⟨c, hcc⟩ : ∃ c : Int, (s[k].toNat : Int) = c := ⟨_, rfl⟩
                  rw [hcc] at hcb HG
                  have W := isWhite_any c
                  cases hw : wh c
                  · rw [hw] at W
                    have HE : Hid (run wh (bl s) (a1 + 1) = k) := hide (by rw [← unhide HR, run_stop (by omega) (by rw [unhide HG]; exact hw)])
                    go_wp2_with fail
                    refine (W _ hcb).mono ?_
                    rintro e wz ⟨rfl, hwz⟩
                    replace hwz := hwz.symm
                    subst hwz
                    go_wp2_with fail
                    go_meet
                    case rel => exact ⟨by rw [unhide HE], rfl⟩
                  · rw [hw] at W
                    have HR' : Hid (run wh (bl s) (k + 1) = run wh (bl s) (a1 + 1)) := hide (by rw [← run_step (by omega) (by rw [unhide HG]; exact hw), unhide HR])
                    go_wp2_with fail
                    refine (W _ hcb).mono ?_
                    rintro e wz ⟨rfl, hwz⟩
                    replace hwz := hwz.symm
                    subst hwz
                    go_wp2_with fail
                    go_round
                    case rel => exact ⟨k + 1, by go_num, by omega, HR'⟩
                    case measure => simp [intOf]; omega
                · have HE : Hid (run wh (bl s) (a1 + 1) = k) := hide (by rw [← unhide HR, run_end (by omega)])
                  go_wp2_with fail
                  go_meet
                  case rel => exact ⟨by rw [unhide HE], rfl⟩
            obtain ⟨rfl, hwc⟩ := hcut
            replace hwc := hwc.symm
            subst hwc
            have ha2 := run_le wh (bl s) (i := a1 + 1) (by omega)
            have ga2 := run_ge wh (bl s) (a1 + 1)
            obtain ⟨a2, HA2⟩ : ∃ a2, Hid (run wh (bl s) (a1 + 1) = a2) := ⟨_, hide rfl⟩
            rw [unhide HA2] at ha2 ga2 ⊢
            by_cases hlt2 : a2 < s.size
            · have hcb2 := u8_lt s hlt2
              have HG2 := hide (bl_at hlt2)
              obtain ⟨c2, hcc2⟩ : ∃ c : Int, (s[a2].toNat : Int) = c := ⟨_, rfl⟩
              rw [hcc2] at hcb2 HG2
              by_cases h34 : c2 = 34
              · subst h34
                have HQ2 : Hid (a2 < (bl s).length ∧ ((bl s).getD a2 0 = 34 ∨ (bl s).getD a2 0 = 39)) := hide (by rw [unhide HG2]; omega)
                have hqs : (s[a2].toNat : Int) = 34 := hcc2
                go_wp2_with fail
                go_loopw [5] (fun i wr => ∃ k : Nat, i = .int .i64 k ∧ a2 + 1 ≤ k ∧ k ≤ s.size ∧ Below w.heap.size w wr ∧ Hid (run (pNot 34) (bl s) k = run (pNot 34) (bl s) (a2 + 1))) (fun i _ => s.size - (intOf i).toNat)
                case atStart => exact ⟨a2 + 1, by go_num, by omega, by omega, unhide HB1, hide rfl⟩
                case round =>
                  obtain ⟨k, rfl, hlo, hk, hB2, HR⟩ := hrel
                  have HB2 := hide hB2
                  clear hB2
                  by_cases hlt : k < s.size
                  · have hcb := u8_lt s hlt
                    have HGk := hide (bl_at hlt)
                    obtain ⟨c, hcc⟩ : ∃ c : Int, (s[k].toNat : Int) = c := ⟨_, rfl⟩
                    rw [hcc] at hcb HGk
                    by_cases hq2 : c = 34
                    · subst hq2
                      have HE : Hid (run (pNot 34) (bl s) (a2 + 1) = k) := hide (by rw [← unhide HR, run_stop (by omega) (by rw [unhide HGk]; decide)])
                      have HZ : Hid (chsI (bl s) = findI (s.extract (a2 + 1) k)) := hide (by rw [← unhide HC, chsF_quote (a3 := k) (by omega) (unhide HBG1) (unhide HA1) (unhide HN1) (unhide HA2) (unhide HQ2) (by rw [unhide HG2]; exact unhide HE), if_neg (by omega), ← bl_cut]; unfold fnd; rw [str_bl])
                      have HF := hide (fun w => findOf_any (s.extract (a2 + 1) k) w (by rw [← bl_len, bl_cut, cut_len (by omega)]; omega))
                      have hsl : ∀ wx, (Instr.slice 9 (.string s) (some (.int .i64 ((a2 : Int) + 1))) (some (.int .i64 (k : Int))) none).run Tryz.prog wx = .ok (.string (s.extract (a2 + 1) k)) wx := fun wx => run_slice_string (P := Tryz.prog) wx 9 s .i64 .i64 ((a2 : Int) + 1) (k : Int) Tryz.underlying9 (by omega) (by omega) (by omega)
                      go_wp2_with fail
                      go_region
                      all_goals
                        go_wp2_with fail
                        refine (unhide HF _).mono ?_
                        rintro e w5 ⟨rfl, hb5⟩
                        have HB5 := hide (bstep (below_drewN (unhide HB2) 1) hb5)
                        clear hb5
                        go_wp2_with fail
                        go_ret
                        exact ⟨by rw [unhide HZ]; rfl, unhide HB5⟩
                    · have hqe := ne_eq hq2
                      have HR' : Hid (run (pNot 34) (bl s) (k + 1) = run (pNot 34) (bl s) (a2 + 1)) := hide (by rw [← run_step (by omega) (by rw [unhide HGk]; exact pNot_n hqe), unhide HR])
                      go_wp2_with fail
                      go_region
                      all_goals
                        go_wp2_with fail
                        go_roundw
                        case rel => exact ⟨k + 1, by go_num, by omega, by omega, below_drewN (unhide HB2) 1, HR'⟩
                        case measure => simp [intOf]; omega
                  · have HE : Hid (run (pNot 34) (bl s) (a2 + 1) = k) := hide (by rw [← unhide HR, run_end (by omega)])
                    have HZ : Hid (chsI (bl s) = 0) := hide (by rw [← unhide HC, chsF_quote (a3 := k) (by omega) (unhide HBG1) (unhide HA1) (unhide HN1) (unhide HA2) (unhide HQ2) (by rw [unhide HG2]; exact unhide HE), if_pos (by omega)])
                    go_wp2_with fail
                    go_ret
                    exact ⟨by rw [unhide HZ]; rfl, unhide HB2⟩
              · have h34e := ne_eq h34
                by_cases h39 : c2 = 39
                · subst h39
                  have HQ2 : Hid (a2 < (bl s).length ∧ ((bl s).getD a2 0 = 34 ∨ (bl s).getD a2 0 = 39)) := hide (by rw [unhide HG2]; omega)
                  have hqs : (s[a2].toNat : Int) = 39 := hcc2
                  go_wp2_with fail
                  go_loopw [5] (fun i wr => ∃ k : Nat, i = .int .i64 k ∧ a2 + 1 ≤ k ∧ k ≤ s.size ∧ Below w.heap.size w wr ∧ Hid (run (pNot 39) (bl s) k = run (pNot 39) (bl s) (a2 + 1))) (fun i _ => s.size - (intOf i).toNat)
                  case atStart => exact ⟨a2 + 1, by go_num, by omega, by omega, unhide HB1, hide rfl⟩
                  case round =>
                    obtain ⟨k, rfl, hlo, hk, hB2, HR⟩ := hrel
                    have HB2 := hide hB2
                    clear hB2
                    by_cases hlt : k < s.size
                    · have hcb := u8_lt s hlt
                      have HGk := hide (bl_at hlt)
                      obtain ⟨c, hcc⟩ : ∃ c : Int, (s[k].toNat : Int) = c := ⟨_, rfl⟩
                      rw [hcc] at hcb HGk
                      by_cases hq2 : c = 39
                      · subst hq2
                        have HE : Hid (run (pNot 39) (bl s) (a2 + 1) = k) := hide (by rw [← unhide HR, run_stop (by omega) (by rw [unhide HGk]; decide)])
                        have HZ : Hid (chsI (bl s) = findI (s.extract (a2 + 1) k)) := hide (by rw [← unhide HC, chsF_quote (a3 := k) (by omega) (unhide HBG1) (unhide HA1) (unhide HN1) (unhide HA2) (unhide HQ2) (by rw [unhide HG2]; exact unhide HE), if_neg (by omega), ← bl_cut]; unfold fnd; rw [str_bl])
                        have HF := hide (fun w => findOf_any (s.extract (a2 + 1) k) w (by rw [← bl_len, bl_cut, cut_len (by omega)]; omega))
                        have hsl : ∀ wx, (Instr.slice 9 (.string s) (some (.int .i64 ((a2 : Int) + 1))) (some (.int .i64 (k : Int))) none).run Tryz.prog wx = .ok (.string (s.extract (a2 + 1) k)) wx := fun wx => run_slice_string (P := Tryz.prog) wx 9 s .i64 .i64 ((a2 : Int) + 1) (k : Int) Tryz.underlying9 (by omega) (by omega) (by omega)
                        go_wp2_with fail
                        go_region
                        all_goals
                          go_wp2_with fail
                          refine (unhide HF _).mono ?_
                          rintro e w5 ⟨rfl, hb5⟩
                          have HB5 := hide (bstep (below_drewN (unhide HB2) 1) hb5)
                          clear hb5
                          go_wp2_with fail
                          go_ret
                          exact ⟨by rw [unhide HZ]; rfl, unhide HB5⟩
                      · have hqe := ne_eq hq2
                        have HR' : Hid (run (pNot 39) (bl s) (k + 1) = run (pNot 39) (bl s) (a2 + 1)) := hide (by rw [← run_step (by omega) (by rw [unhide HGk]; exact pNot_n hqe), unhide HR])
                        go_wp2_with fail
                        go_region
                        all_goals
                          go_wp2_with fail
                          go_roundw
                          case rel => exact ⟨k + 1, by go_num, by omega, by omega, below_drewN (unhide HB2) 1, HR'⟩
                          case measure => simp [intOf]; omega
                    · have HE : Hid (run (pNot 39) (bl s) (a2 + 1) = k) := hide (by rw [← unhide HR, run_end (by omega)])
                      have HZ : Hid (chsI (bl s) = 0) := hide (by rw [← unhide HC, chsF_quote (a3 := k) (by omega) (unhide HBG1) (unhide HA1) (unhide HN1) (unhide HA2) (unhide HQ2) (by rw [unhide HG2]; exact unhide HE), if_pos (by omega)])
                      go_wp2_with fail
                      go_ret
                      exact ⟨by rw [unhide HZ]; rfl, unhide HB2⟩
                · have h39e := ne_eq h39
                  have HQ2 : Hid (¬ (a2 < (bl s).length ∧ ((bl s).getD a2 0 = 34 ∨ (bl s).getD a2 0 = 39))) := hide (by rw [unhide HG2]; omega)
                  have HX3 : Hid (bl ⟨#[]⟩ = cut (bl s) (a2) (a2)) := hide (by rw [cut_self]; rfl)
                  go_upto_block 8 with fail
                  go_cut [3, 4] (fun i nmv wx => ∃ t : ByteArray, i = .int .i64 (run pSemi (bl s) (a2) : Int) ∧ nmv = .string t ∧ bl t = cut (bl s) (a2) (run pSemi (bl s) (a2)) ∧ wx = w1)
                  case first =>
                    go_wp2_with fail
                    go_loopw [3, 4] (fun i nmv wr => ∃ (k : Nat) (t : ByteArray), i = .int .i64 k ∧ nmv = .string t ∧ a2 ≤ k ∧ k ≤ s.size ∧ Hid (run pSemi (bl s) k = run pSemi (bl s) (a2)) ∧ Hid (bl t = cut (bl s) (a2) k) ∧ wr = w1) (fun i _ _ => s.size - (intOf i).toNat)
                    case atStart => exact ⟨a2, _, by go_num, rfl, by omega, by omega, hide rfl, HX3, rfl⟩
                    case round =>
                      obtain ⟨k, t, rfl, rfl, hlo, hk, HR, HX, rfl⟩ := hrel
                      have htz : t.size ≤ 3000 := by rw [← bl_len, unhide HX, cut_len (by omega)]; omega
                      by_cases hlt : k < s.size
                      · have hcb := u8_lt s hlt
                        have HG := hide (bl_at hlt)
                        obtain ⟨c, hcc⟩ : ∃ c : Int, (s[k].toNat : Int) = c := ⟨_, rfl⟩
                        rw [hcc] at hcb HG
                        have W := isWhite_any c
                        cases hw : wh c
                        · rw [hw] at W
                          by_cases h59 : c = 59
                          · subst h59
                            have HE : Hid (run pSemi (bl s) (a2) = k) := hide (by rw [← unhide HR, run_stop (by omega) (by rw [unhide HG]; exact (by decide))])
                            go_wp2_with fail
                            refine (W _ hcb).mono ?_
                            rintro e wz ⟨rfl, hwz⟩
                            replace hwz := hwz.symm
                            subst hwz
                            go_wp2_with fail
                            go_meet
                            case rel => exact ⟨t, by rw [unhide HE], rfl, by rw [unhide HE]; exact unhide HX, rfl⟩
                          · have h59e := ne_eq h59
                            have h59n := ne_ne h59
                            have HR' : Hid (run pSemi (bl s) (k + 1) = run pSemi (bl s) (a2)) := hide (by rw [← run_step (by omega) (by rw [unhide HG]; exact pSemi_n hw h59e), unhide HR])
                            have HX' := hide (cut_step (unhide HX) (by omega) hlt)
                            have hz1 := ext_one hlt
                            have hsl : ∀ wx, (Instr.slice 9 (.string s) (some (.int .i64 (k : Int))) (some (.int .i64 ((k : Int) + 1))) none).run Tryz.prog wx = .ok (.string (s.extract k (k + 1))) wx := fun wx => run_slice_string (P := Tryz.prog) wx 9 s .i64 .i64 (k : Int) ((k : Int) + 1) Tryz.underlying9 (by omega) (by omega) (by omega)
                            go_wp2_with fail
                            refine (W _ hcb).mono ?_
                            rintro e wz ⟨rfl, hwz⟩
                            replace hwz := hwz.symm
                            subst hwz
                            go_wp2_with fail
                            go_roundw
                            case rel => exact ⟨k + 1, t ++ s.extract k (k + 1), by go_num, rfl, by omega, by omega, HR', HX', by first | rfl | trivial⟩
                            case measure => simp [intOf]; omega
                        · rw [hw] at W
                          have HE : Hid (run pSemi (bl s) (a2) = k) := hide (by rw [← unhide HR, run_stop (by omega) (by rw [unhide HG]; exact pSemi_w hw)])
                          go_wp2_with fail
                          refine (W _ hcb).mono ?_
                          rintro e wz ⟨rfl, hwz⟩
                          replace hwz := hwz.symm
                          subst hwz
                          go_wp2_with fail
                          go_meet
                          case rel => exact ⟨t, by rw [unhide HE], rfl, by rw [unhide HE]; exact unhide HX, rfl⟩
                      · have HE : Hid (run pSemi (bl s) (a2) = k) := hide (by rw [← unhide HR, run_end (by omega)])
                        go_wp2_with fail
                        go_meet
                        case rel => exact ⟨t, by rw [unhide HE], rfl, by rw [unhide HE]; exact unhide HX, rfl⟩
                  obtain ⟨vlt, rfl, rfl, hx4, hwc⟩ := hcut
                  replace hwc := hwc.symm
                  subst hwc
                  have HX4 := hide hx4
                  have ha3 := run_le pSemi (bl s) (i := a2) (by omega)
                  have ga3 := run_ge pSemi (bl s) (a2)
                  obtain ⟨a3, HA3⟩ : ∃ a3, Hid (run pSemi (bl s) (a2) = a3) := ⟨_, hide rfl⟩
                  rw [unhide HA3] at ha3 ga3 HX4 ⊢
                  clear hx4
                  have htz4 : vlt.size ≤ 3000 := by rw [← bl_len, unhide HX4, cut_len (by omega)]; omega
                  have HZ : Hid (chsI (bl s) = findI vlt) := hide (by rw [← unhide HC, chsF_bare (by omega) (unhide HBG1) (unhide HA1) (unhide HN1) (unhide HA2) (unhide HQ2) (unhide HA3), ← unhide HX4]; unfold fnd; rw [str_bl])
                  have HF := hide (fun w => findOf_any vlt w htz4)
                  go_wp2_with fail
                  refine (unhide HF _).mono ?_
                  rintro e w5 ⟨rfl, hb5⟩
                  have HB5 := hide (bstep (unhide HB1) hb5)
                  clear hb5
                  go_wp2_with fail
                  go_ret
                  exact ⟨by rw [unhide HZ]; rfl, unhide HB5⟩
            · obtain rfl : a2 = s.size := by omega
              have HQ2 : Hid (¬ (s.size < (bl s).length ∧ ((bl s).getD s.size 0 = 34 ∨ (bl s).getD s.size 0 = 39))) := hide (by omega)
              have HX3 : Hid (bl ⟨#[]⟩ = cut (bl s) (s.size) (s.size)) := hide (by rw [cut_self]; rfl)
              go_upto_block 8 with fail
              go_cut [3, 4] (fun i nmv wx => ∃ t : ByteArray, i = .int .i64 (run pSemi (bl s) (s.size) : Int) ∧ nmv = .string t ∧ bl t = cut (bl s) (s.size) (run pSemi (bl s) (s.size)) ∧ wx = w1)
              case first =>
                go_wp2_with fail
                go_loopw [3, 4] (fun i nmv wr => ∃ (k : Nat) (t : ByteArray), i = .int .i64 k ∧ nmv = .string t ∧ s.size ≤ k ∧ k ≤ s.size ∧ Hid (run pSemi (bl s) k = run pSemi (bl s) (s.size)) ∧ Hid (bl t = cut (bl s) (s.size) k) ∧ wr = w1) (fun i _ _ => s.size - (intOf i).toNat)
                case atStart => exact ⟨s.size, _, by go_num, rfl, by omega, by omega, hide rfl, HX3, rfl⟩
                case round =>
                  obtain ⟨k, t, rfl, rfl, hlo, hk, HR, HX, rfl⟩ := hrel
                  have htz : t.size ≤ 3000 := by rw [← bl_len, unhide HX, cut_len (by omega)]; omega
                  by_cases hlt : k < s.size
                  · have hcb := u8_lt s hlt
                    have HG := hide (bl_at hlt)
                    obtain ⟨c, hcc⟩ : ∃ c : Int, (s[k].toNat : Int) = c := ⟨_, rfl⟩
                    rw [hcc] at hcb HG
                    exfalso; omega
                  · have HE : Hid (run pSemi (bl s) (s.size) = k) := hide (by rw [← unhide HR, run_end (by omega)])
                    go_wp2_with fail
                    go_meet
                    case rel => exact ⟨t, by rw [unhide HE], rfl, by rw [unhide HE]; exact unhide HX, rfl⟩
              obtain ⟨vlt, rfl, rfl, hx4, hwc⟩ := hcut
              replace hwc := hwc.symm
              subst hwc
              have HX4 := hide hx4
              have ha3 := run_le pSemi (bl s) (i := s.size) (by omega)
              have ga3 := run_ge pSemi (bl s) (s.size)
              obtain ⟨a3, HA3⟩ : ∃ a3, Hid (run pSemi (bl s) (s.size) = a3) := ⟨_, hide rfl⟩
              rw [unhide HA3] at ha3 ga3 HX4 ⊢
              clear hx4
              have htz4 : vlt.size ≤ 3000 := by rw [← bl_len, unhide HX4, cut_len (by omega)]; omega
              have HZ : Hid (chsI (bl s) = findI vlt) := hide (by rw [← unhide HC, chsF_bare (by omega) (unhide HBG1) (unhide HA1) (unhide HN1) (unhide HA2) (unhide HQ2) (unhide HA3), ← unhide HX4]; unfold fnd; rw [str_bl])
              have HF := hide (fun w => findOf_any vlt w htz4)
              go_wp2_with fail
              refine (unhide HF _).mono ?_
              rintro e w5 ⟨rfl, hb5⟩
              have HB5 := hide (bstep (unhide HB1) hb5)
              clear hb5
              go_wp2_with fail
              go_ret
              exact ⟨by rw [unhide HZ]; rfl, unhide HB5⟩
          · have h61n := ne_ne h61
            have HC' : Hid (chsF (bl s) (a1) = chsI (bl s)) := hide (by rw [← chsF_none (by omega) (unhide HBG1) (unhide HA1) (.inr (by rw [unhide HG1]; exact h61)), unhide HC])
            go_wp2_with fail
            go_roundw
            case rel => exact ⟨a1, rfl, by omega, unhide HB1, HC'⟩
            case measure => simp [intOf]; omega
        · obtain rfl : a1 = s.size := by omega
          have HC' : Hid (chsF (bl s) (s.size) = chsI (bl s)) := hide (by rw [← chsF_none (by omega) (unhide HBG1) (unhide HA1) (.inl (by omega)), unhide HC])
          go_wp2_with fail
          go_roundw
          case rel => exact ⟨s.size, rfl, by omega, unhide HB1, HC'⟩
          case measure => simp [intOf]; omega
    · have HZ : Hid (chsI (bl s) = 0) := hide (by rw [← unhide HC, chsF_end (by omega)])
      go_wp2_with fail
      go_ret
      exact ⟨by rw [unhide HZ]; rfl, unhide HB⟩
end Go.Proofs.YtaiinjfnkmidbaaGreatDoor

namespace Go.Proofs.YtaiinjfnkmidbaaGreatDoor
open Go.RowKit
set_option linter.unusedVariables false

def csB : ByteArray := ⟨#[99, 104, 97, 114, 115, 101, 116]⟩
def heB : ByteArray := ⟨#[104, 116, 116, 112, 45, 101, 113, 117, 105, 118]⟩
def coB : ByteArray := ⟨#[99, 111, 110, 116, 101, 110, 116]⟩
def ctB : ByteArray := ⟨#[99, 111, 110, 116, 101, 110, 116, 45, 116, 121, 112, 101]⟩
/-- The first place from k on where the name is m, or -1. -/
def sfI (m : ByteArray) (L : List (ByteArray × ByteArray)) (k : Nat) : Int := match (L.drop k).findIdx? (fun x => decide (x.1 = m)) with | some j => ((k + j : Nat) : Int) | none => -1
theorem sfI_end (m : ByteArray) (L : List (ByteArray × ByteArray)) : sfI m L L.length = -1 := by unfold sfI; rw [List.drop_length]; rfl
theorem sfI_hit {m : ByteArray} {L : List (ByteArray × ByteArray)} {j : Nat} (hj : j < L.length) (h : L[j].1 = m) : sfI m L j = j := by
  unfold sfI
  rw [List.drop_eq_getElem_cons hj, List.findIdx?_cons]
  simp [h]
theorem sfI_miss {m : ByteArray} {L : List (ByteArray × ByteArray)} {j : Nat} (hj : j < L.length) (h : L[j].1 ≠ m) : sfI m L j = sfI m L (j + 1) := by
  unfold sfI
  rw [List.drop_eq_getElem_cons hj, List.findIdx?_cons]
  simp only [h, decide_false]
  cases (L.drop (j + 1)).findIdx? (fun x => decide (x.1 = m)) with
  | none => rfl
  | some q => simp; omega
theorem sfI_bd (m : ByteArray) (L : List (ByteArray × ByteArray)) (k : Nat) : sfI m L k = -1 ∨ ∃ j : Nat, sfI m L k = j ∧ j < L.length := by
  unfold sfI
  cases h : (L.drop k).findIdx? (fun x => decide (x.1 = m)) with
  | none => exact .inl rfl
  | some q =>
    refine .inr ⟨k + q, rfl, ?_⟩
    rw [List.findIdx?_eq_some_iff_getElem] at h
    obtain ⟨hq, _⟩ := h
    rw [List.length_drop] at hq; omega
/-- Which encodings are told for which. -/
def fixE (n : Int) : Int := if n = 2 ∨ n = 3 then 1 else if n = 5 then 4 else n
def valAt (L : List (ByteArray × ByteArray)) (i : Int) : ByteArray := (L.getD i.toNat (⟨#[]⟩, ⟨#[]⟩)).2
def metaI (L : List (ByteArray × ByteArray)) : Int :=
  fixE (if 0 ≤ sfI csB L 0 then findI (valAt L (sfI csB L 0)) else if 0 ≤ sfI heB L 0 ∧ 0 ≤ sfI coB L 0 ∧ valAt L (sfI heB L 0) = ctB then chsI (bl (valAt L (sfI coB L 0))) else 0)
theorem valAt_nat {L : List (ByteArray × ByteArray)} {j : Nat} (h : j < L.length) : valAt L (j : Int) = L[j].2 := by
  unfold valAt; simp [h]
theorem eq_lit (x : ByteArray) (m : ByteArray) (cs : List UInt8) (h : m.toList = cs) : (x.toList == cs) = decide (x = m) := by rw [← h, text_eq]

set_option maxHeartbeats 6400000 in
set_option maxRecDepth 100000 in
theorem metaOf_any {v : Value} {L : List (ByteArray × ByteArray)} (w : World) (hv : Ats w v L) (hs : ∀ x ∈ L, x.2.size ≤ 3000) :
    Calls Tryz.prog 115 #[v] w fun e w' => e = .returned (.int .i64 (metaI L)) ∧ Below w.heap.size w w' := by
  obtain ⟨ao, cap, rfl, hm, hc⟩ := hv
  unfold maxLen at hm
  have HC := hide hc
  have HS := hide hs
  clear hc hs
  have y1 : csB.toList = ([99, 104, 97, 114, 115, 101, 116] : List UInt8) := by rw [Lib.toList_data]; rfl
  have y2 : heB.toList = ([104, 116, 116, 112, 45, 101, 113, 117, 105, 118] : List UInt8) := by rw [Lib.toList_data]; rfl
  have y3 : coB.toList = ([99, 111, 110, 116, 101, 110, 116] : List UInt8) := by rw [Lib.toList_data]; rfl
  have y4 : ctB.toList = ([99, 111, 110, 116, 101, 110, 116, 45, 116, 121, 112, 101] : List UInt8) := by rw [Lib.toList_data]; rfl
  have Y1 := hide (fun x => eq_lit x csB _ y1)
  have Y2 := hide (fun x => eq_lit x heB _ y2)
  have Y3 := hide (fun x => eq_lit x coB _ y3)
  have Y4 := hide (fun x => eq_lit x ctB _ y4)
  clear y1 y2 y3 y4
  go_enter Tryz.func115, Tryz.ntmps115
  go_wp2_with fail
  go_loopw [3, 4, 5, 6] (fun a b c i wr => ∃ k : Nat, k ≤ L.length ∧ i = .int .i64 ((k : Int) - 1) ∧ a = .int .i64 (sfI csB L k) ∧ b = .int .i64 (sfI heB L k) ∧ c = .int .i64 (sfI coB L k) ∧ wr = w) (fun _ _ _ i _ => (intOf i + 1).toNat)
  case atStart => exact ⟨L.length, Nat.le_refl _, rfl, by rw [sfI_end], by rw [sfI_end], by rw [sfI_end], rfl⟩
  case round =>
    obtain ⟨k, hk, rfl, rfl, rfl, rfl, hwr⟩ := hrel
    replace hwr := hwr.symm
    subst hwr
    cases k with
    | succ j =>
      have hj : j < L.length := by omega
      rw [show (((j + 1 : Nat) : Int) - 1) = (j : Int) from by omega]
      obtain ⟨b, off, rfl, hcc⟩ : ∃ b off, ao = some ⟨b, off, none⟩ ∧ ∀ i (h : i < L.length), w.cell? ⟨b, off + i * 2, none⟩ = some (.string L[i].1) ∧ w.cell? ⟨b, off + i * 2 + 1, none⟩ = some (.string L[i].2) := by
        rcases unhide HC with h | h
        · subst h; simp at hj
        · exact h
      have c1 := (hcc j hj).1
      have hbl : b < w.heap.size := World.block_lt_of_cell? w _ c1
      clear hcc
      have HX : Hid (L[j].1 = L[j].1) := hide rfl
      have S1 := hide (fun m (h : L[j].1 = m) => sfI_hit hj h)
      have S2 := hide (fun m (h : L[j].1 ≠ m) => sfI_miss (m := m) hj h)
      generalize L[j].1 = x at *
      have e1 := unhide Y1 x
      have e2 := unhide Y2 x
      have e3 := unhide Y3 x
      generalize hA : sfI csB L (j + 1) = A1 at *
      generalize hB : sfI heB L (j + 1) = A2 at *
      generalize hD : sfI coB L (j + 1) = A3 at *
      have HA := hide hA
      have HB := hide hB
      have HD := hide hD
      clear hA hB hD HX
      by_cases h1 : x = csB
      · have n2 : x ≠ heB := by rw [h1]; decide
        have n3 : x ≠ coB := by rw [h1]; decide
        rw [show decide (x = csB) = true from decide_eq_true h1] at e1
        have R1 := hide (unhide S1 _ h1)
        have R2 := hide (unhide S2 _ n2)
        have R3 := hide (unhide S2 _ n3)
        clear h1 n2 n3 e2 e3
        go_wp2_with fail
        go_roundw
        case rel => exact ⟨j, by omega, by go_num, by rw [unhide R1], by rw [unhide R2, unhide HB], by rw [unhide R3, unhide HD], by first | rfl | trivial⟩
        case measure => simp [intOf]
      · rw [show decide (x = csB) = false from decide_eq_false h1] at e1
        have R1 := hide (unhide S2 _ h1)
        by_cases h2 : x = heB
        · have n3 : x ≠ coB := by rw [h2]; decide
          rw [show decide (x = heB) = true from decide_eq_true h2] at e2
          have R2 := hide (unhide S1 _ h2)
          have R3 := hide (unhide S2 _ n3)
          clear h1 h2 n3 e3
          go_wp2_with fail
          go_roundw
          case rel => exact ⟨j, by omega, by go_num, by rw [unhide R1, unhide HA], by rw [unhide R2], by rw [unhide R3, unhide HD], by first | rfl | trivial⟩
          case measure => simp [intOf]
        · rw [show decide (x = heB) = false from decide_eq_false h2] at e2
          have R2 := hide (unhide S2 _ h2)
          by_cases h3 : x = coB
          · rw [show decide (x = coB) = true from decide_eq_true h3] at e3
            have R3 := hide (unhide S1 _ h3)
            clear h1 h2 h3
            go_wp2_with fail
            go_roundw
            case rel => exact ⟨j, by omega, by go_num, by rw [unhide R1, unhide HA], by rw [unhide R2, unhide HB], by rw [unhide R3], by first | rfl | trivial⟩
            case measure => simp [intOf]
          · rw [show decide (x = coB) = false from decide_eq_false h3] at e3
            have R3 := hide (unhide S2 _ h3)
            clear h1 h2 h3
            go_wp2_with fail
            go_roundw
            case rel => exact ⟨j, by omega, by go_num, by rw [unhide R1, unhide HA], by rw [unhide R2, unhide HB], by rw [unhide R3, unhide HD], by first | rfl | trivial⟩
            case measure => simp [intOf]
    | zero =>
      have HM : Hid (metaI L = fixE (if 0 ≤ sfI csB L 0 then findI (valAt L (sfI csB L 0)) else if 0 ≤ sfI heB L 0 ∧ 0 ≤ sfI coB L 0 ∧ valAt L (sfI heB L 0) = ctB then chsI (bl (valAt L (sfI coB L 0))) else 0)) := hide rfl
      have B1 := sfI_bd csB L 0
      have B2 := sfI_bd heB L 0
      have B3 := sfI_bd coB L 0
      generalize sfI csB L 0 = A1 at *
      generalize sfI heB L 0 = A2 at *
      generalize sfI coB L 0 = A3 at *
      rw [show (((0 : Nat) : Int) - 1) = -1 from by omega]
      rcases B1 with rfl | ⟨j1, rfl, hj1⟩
      · rcases B2 with rfl | ⟨j2, rfl, hj2⟩
        · have HZ : Hid (metaI L = 0) := hide (by rw [unhide HM]; simp [fixE])
          go_wp2_with fail
          go_ret
          exact ⟨by rw [unhide HZ]; rfl, Below.refl _ _⟩
        · rcases B3 with rfl | ⟨j3, rfl, hj3⟩
          · have HZ : Hid (metaI L = 0) := hide (by rw [unhide HM]; simp [fixE])
            go_wp2_with fail
            go_ret
            exact ⟨by rw [unhide HZ]; rfl, Below.refl _ _⟩
          · obtain ⟨b, off, rfl, hcc⟩ : ∃ b off, ao = some ⟨b, off, none⟩ ∧ ∀ i (h : i < L.length), w.cell? ⟨b, off + i * 2, none⟩ = some (.string L[i].1) ∧ w.cell? ⟨b, off + i * 2 + 1, none⟩ = some (.string L[i].2) := by
              rcases unhide HC with h | h
              · subst h; simp at hj2
              · exact h
            have c2 := (hcc j2 hj2).2
            have c3 := (hcc j3 hj3).2
            have hbl : b < w.heap.size := World.block_lt_of_cell? w _ c2
            have e4 := unhide Y4 L[j2].2
            have z3 := unhide HS L[j3] (List.getElem_mem _)
            rw [valAt_nat hj2, valAt_nat hj3] at HM
            generalize L[j2].2 = x2 at *
            generalize L[j3].2 = x3 at *
            by_cases hx : x2 = ctB
            · rw [show decide (x2 = ctB) = true from decide_eq_true hx] at e4
              have HZ : Hid (metaI L = fixE (chsI (bl x3))) := hide (by rw [unhide HM, if_neg (by omega), if_pos ⟨by omega, by omega, hx⟩])
              have HCh := hide (fun w => charsetOf_any x3 w z3)
              generalize chsI (bl x3) = n at *
              clear hx hcc
              go_wp2_with fail
              refine (unhide HCh _).mono ?_
              rintro e w1 ⟨rfl, hb1⟩
              have HB1 := hide hb1
              clear hb1
              by_cases n2 : n = 2
              · subst n2
                go_wp2_with fail
                go_ret
                exact ⟨by rw [unhide HZ]; rfl, unhide HB1⟩
              · by_cases n3 : n = 3
                · subst n3
                  go_wp2_with fail
                  go_ret
                  exact ⟨by rw [unhide HZ]; rfl, unhide HB1⟩
                · by_cases n5 : n = 5
                  · subst n5
                    go_wp2_with fail
                    go_ret
                    exact ⟨by rw [unhide HZ]; rfl, unhide HB1⟩
                  · have HF : Hid (fixE n = n) := hide (by unfold fixE; rw [if_neg (by omega), if_neg n5])
                    have n2e := ne_eq n2
                    have n3e := ne_eq n3
                    have n5e := ne_eq n5
                    clear n2 n3 n5
                    go_wp2_with fail
                    go_ret
                    exact ⟨by rw [unhide HZ, unhide HF]; rfl, unhide HB1⟩
            · rw [show decide (x2 = ctB) = false from decide_eq_false hx] at e4
              have HZ : Hid (metaI L = 0) := hide (by rw [unhide HM, if_neg (by omega), if_neg (fun h => hx h.2.2)]; simp [fixE])
              clear hx hcc
              go_wp2_with fail
              go_ret
              exact ⟨by rw [unhide HZ]; rfl, Below.refl _ _⟩
      · obtain ⟨b, off, rfl, hcc⟩ : ∃ b off, ao = some ⟨b, off, none⟩ ∧ ∀ i (h : i < L.length), w.cell? ⟨b, off + i * 2, none⟩ = some (.string L[i].1) ∧ w.cell? ⟨b, off + i * 2 + 1, none⟩ = some (.string L[i].2) := by
          rcases unhide HC with h | h
          · subst h; simp at hj1
          · exact h
        have c1 := (hcc j1 hj1).2
        have hbl : b < w.heap.size := World.block_lt_of_cell? w _ c1
        have z1 := unhide HS L[j1] (List.getElem_mem _)
        rw [valAt_nat hj1] at HM
        generalize L[j1].2 = x1 at *
        have HZ : Hid (metaI L = fixE (findI x1)) := hide (by rw [unhide HM, if_pos (by omega)])
        have HFi := hide (fun w => findOf_any x1 w z1)
        generalize findI x1 = n at *
        clear hcc
        go_wp2_with fail
        refine (unhide HFi _).mono ?_
        rintro e w1 ⟨rfl, hb1⟩
        have HB1 := hide hb1
        clear hb1
        by_cases n2 : n = 2
        · subst n2
          go_wp2_with fail
          go_ret
          exact ⟨by rw [unhide HZ]; rfl, unhide HB1⟩
        · by_cases n3 : n = 3
          · subst n3
            go_wp2_with fail
            go_ret
            exact ⟨by rw [unhide HZ]; rfl, unhide HB1⟩
          · by_cases n5 : n = 5
            · subst n5
              go_wp2_with fail
              go_ret
              exact ⟨by rw [unhide HZ]; rfl, unhide HB1⟩
            · have HF : Hid (fixE n = n) := hide (by unfold fixE; rw [if_neg (by omega), if_neg n5])
              have n2e := ne_eq n2
              have n3e := ne_eq n3
              have n5e := ne_eq n5
              clear n2 n3 n5
              go_wp2_with fail
              go_ret
              exact ⟨by rw [unhide HZ, unhide HF]; rfl, unhide HB1⟩
end Go.Proofs.YtaiinjfnkmidbaaGreatDoor

namespace Go.Proofs.YtaiinjfnkmidbaaGreatDoor
set_option linter.unusedVariables false

def isLet (c : Int) : Bool := (decide (97 ≤ c) && decide (c ≤ 122)) || (decide (65 ≤ c) && decide (c ≤ 90))
/-- The beginnings that are looked for. -/
def b4 : List Int := [60, 33, 45, 45]
def b3 : List Int := [45, 45, 62]
def b5 : List Int := [60, 109, 101, 116, 97]
def bE : List Int := [60, 33]
def bS : List Int := [60, 47]
def bQ : List Int := [60, 63]
/-- The first place from i on where a comment ends, or the end. -/
def fb : Nat → List Int → Nat → Nat
  | 0, _, i => i
  | n + 1, l, i => if bgn l i b3 = true then i else fb n l (i + 1)
def fbI (l : List Int) (i : Nat) : Nat := fb (l.length - i) l i
theorem fbI_hit {l : List Int} {i : Nat} (hi : i < l.length) (h : bgn l i b3 = true) : fbI l i = i := by
  unfold fbI; rw [show l.length - i = (l.length - i - 1) + 1 from by omega]; unfold fb; rw [if_pos h]
theorem fbI_miss {l : List Int} {i : Nat} (hi : i < l.length) (h : bgn l i b3 = false) : fbI l i = fbI l (i + 1) := by
  unfold fbI; rw [show l.length - i = (l.length - i - 1) + 1 from by omega]
  conv => lhs; unfold fb
  rw [if_neg (by simp [h])]; rfl
theorem fbI_end {l : List Int} {i : Nat} (hi : l.length ≤ i) : fbI l i = i := by
  unfold fbI; rw [show l.length - i = 0 from by omega]; rfl
theorem fbI_ge (l : List Int) : ∀ (n i : Nat), l.length - i ≤ n → i ≤ fbI l i
  | 0, i, h => by rw [fbI_end (by omega)]; exact Nat.le_refl _
  | n + 1, i, h => by
    by_cases hi : i < l.length
    · cases hb : bgn l i b3
      · rw [fbI_miss hi hb]; have := fbI_ge l n (i + 1) (by omega); omega
      · rw [fbI_hit hi hb]; exact Nat.le_refl _
    · rw [fbI_end (by omega)]; exact Nat.le_refl _
/-- The place of a tag's name, or 0. -/
def nmAt (l : List Int) (k : Nat) : Nat :=
  if l.getD k 0 = 60 then (if k + 2 < l.length ∧ l.getD (k + 1) 0 = 47 ∧ isLet (l.getD (k + 2) 0) = true then k + 2 else if k + 1 < l.length ∧ isLet (l.getD (k + 1) 0) = true then k + 1 else 0) else 0
/-- Is there a meta? -/
def isMeta (l : List Int) (k : Nat) : Bool := bgn l k b5 && (decide (k + 5 < l.length) && pAhead (l.getD (k + 5) 0))
def isDecl (l : List Int) (k : Nat) : Bool := bgn l k bE || (bgn l k bS || bgn l k bQ)
def metaAt (l : List Int) (k : Nat) : Int := metaI (txts (attrsI l (k + 5)).1)
/-- The next place to look at, where no meta tells anything. -/
def nxtP (l : List Int) (k : Nat) : Nat :=
  if bgn l k b4 = true then fbI l (k + 2) + 3
  else if isMeta l k = true then (attrsI l (k + 5)).2 + 1
  else if 0 < nmAt l k then (attrsI l (run pVal l (nmAt l k))).2 + 1
  else if isDecl l k = true then run (pNot 62) l k + 1 else k + 1
def scn : Nat → List Int → Nat → Int
  | 0, _, _ => 0
  | n + 1, l, k => if l.length ≤ k then 0 else if bgn l k b4 = false ∧ isMeta l k = true ∧ metaAt l k ≠ 0 then metaAt l k else scn n l (nxtP l k)
theorem nmAt_le {l : List Int} {k : Nat} (h : 0 < nmAt l k) : k < nmAt l k ∧ nmAt l k < l.length := by
  unfold nmAt at *
  split at h
  · rename_i c0
    rw [if_pos c0] at *
    split at h
    · rename_i c; rw [if_pos c]; omega
    · rename_i c; rw [if_neg c]
      split at h
      · rename_i c'; rw [if_pos c']; omega
      · omega
  · omega
theorem nxtP_gt {l : List Int} {k : Nat} (hk : k < l.length) : k < nxtP l k := by
  unfold nxtP
  split
  · have := fbI_ge l _ (k + 2) (Nat.le_refl _); omega
  · split
    · rename_i h
      have h5 : k + 5 < l.length := by
        unfold isMeta at h
        simp at h
        exact h.2.1
      have := attrsI_le l _ (k + 5) (Nat.le_refl _) (by omega)
      omega
    · split
      · rename_i h
        have hn := nmAt_le h
        have g := run_ge pVal l (nmAt l k)
        have e := run_le pVal l (i := nmAt l k) (by omega)
        have := attrsI_le l _ (run pVal l (nmAt l k)) (Nat.le_refl _) e
        omega
      · split
        · have := run_ge (pNot 62) l k; omega
        · omega
def scnF (l : List Int) (k : Nat) : Int := scn (l.length - k) l k
def scnI (l : List Int) : Int := scnF (l.take 256) 0
theorem scn_more : ∀ (n m : Nat) (l : List Int) (k : Nat), l.length - k ≤ n → l.length - k ≤ m → scn n l k = scn m l k
  | 0, m, l, k, hn, _ => by
    cases m with
    | zero => rfl
    | succ m => unfold scn; rw [if_pos (by omega)]
  | n + 1, 0, l, k, _, hm => by unfold scn; rw [if_pos (by omega)]
  | n + 1, m + 1, l, k, hn, hm => by
    unfold scn
    split
    · rfl
    · split
      · rfl
      · have := nxtP_gt (l := l) (k := k) (by omega)
        exact scn_more n m l _ (by omega) (by omega)
theorem scnF_end {l : List Int} {k : Nat} (h : l.length ≤ k) : scnF l k = 0 := by
  unfold scnF; rw [show l.length - k = 0 from by omega]; rfl
theorem scnF_meta {l : List Int} {k : Nat} (hk : k < l.length) (h4 : bgn l k b4 = false) (hm : isMeta l k = true) (hn : metaAt l k ≠ 0) : scnF l k = metaAt l k := by
  unfold scnF; rw [show l.length - k = (l.length - k - 1) + 1 from by omega]; unfold scn
  rw [if_neg (by omega), if_pos ⟨h4, hm, hn⟩]
theorem scnF_next {l : List Int} {k a : Nat} (hk : k < l.length) (hn : ¬ (bgn l k b4 = false ∧ isMeta l k = true ∧ metaAt l k ≠ 0)) (ha : nxtP l k = a) : scnF l k = scnF l a := by
  have hg := nxtP_gt hk
  unfold scnF; rw [show l.length - k = (l.length - k - 1) + 1 from by omega]
  conv => lhs; unfold scn
  rw [if_neg (by omega), if_neg hn, ha]
  exact scn_more _ _ l a (by omega) (by omega)
end Go.Proofs.YtaiinjfnkmidbaaGreatDoor

namespace Go.Proofs.YtaiinjfnkmidbaaGreatDoor

theorem lk_in : ∀ (l : List (ByteArray × Int)) (s : ByteArray), lk l s = 0 ∨ ∃ x ∈ l, lk l s = x.2
  | [], _ => .inl rfl
  | x :: t, s => by
    unfold lk
    split
    · exact .inr ⟨x, List.mem_cons_self, rfl⟩
    · rcases lk_in t s with h | ⟨y, hy, h⟩
      · exact .inl h
      · exact .inr ⟨y, List.mem_cons_of_mem _ hy, h⟩
theorem labs_bd : ∀ x ∈ labs, 0 ≤ x.2 ∧ x.2 ≤ 7 := by decide
theorem findI_bd (s : ByteArray) : 0 ≤ findI s ∧ findI s ≤ 7 := by
  unfold findI
  rcases lk_in labs (strOfNums (fdI (trI (bl s)))) with h | ⟨x, hx, h⟩
  · rw [h]; decide
  · rw [h]; exact labs_bd x hx
theorem chs_bd : ∀ (n : Nat) (l : List Int) (k : Nat), 0 ≤ chs n l k ∧ chs n l k ≤ 7
  | 0, l, k => by unfold chs; decide
  | n + 1, l, k => by
    unfold chs
    split
    · decide
    · split
      · exact chs_bd n l _
      · split
        · exact chs_bd n l _
        · split
          · split
            · decide
            · exact findI_bd _
          · exact findI_bd _
/-- Which answers there are. -/
def toldE (n : Int) : Prop := 0 ≤ n ∧ n ≤ 7 ∧ n ≠ 2 ∧ n ≠ 3 ∧ n ≠ 5
theorem fixE_told {n : Int} (h : 0 ≤ n ∧ n ≤ 7) : toldE (fixE n) := by
  unfold fixE toldE
  split
  · decide
  · split
    · decide
    · omega
theorem metaI_told (L : List (ByteArray × ByteArray)) : toldE (metaI L) := by
  unfold metaI
  refine fixE_told ?_
  split
  · exact findI_bd _
  · split
    · exact chs_bd _ _ _
    · decide
theorem scn_told : ∀ (n : Nat) (l : List Int) (k : Nat), toldE (scn n l k)
  | 0, l, k => by unfold scn toldE; decide
  | n + 1, l, k => by
    unfold scn
    split
    · unfold toldE; decide
    · split
      · exact metaI_told _
      · exact scn_told n l _
theorem scnI_told (l : List Int) : toldE (scnI l) := scn_told _ _ _
/-- What stands behind 256 bytes is not seen. -/
theorem scnI_more {l m : List Int} (h : 256 ≤ l.length) : scnI (l ++ m) = scnI l := by
  unfold scnI; rw [List.take_append_of_le_length h]
end Go.Proofs.YtaiinjfnkmidbaaGreatDoor

namespace Go.Proofs.YtaiinjfnkmidbaaGreatDoor.M

section
variable {σ τ : Type} (get : τ → σ) (put : τ → σ → τ)
def liftF (f : σ → List Int → Option (List Int × Nat × σ)) : τ → List Int → Option (List Int × Nat × τ) := fun t l => (f (get t) l).map (fun r => (r.1, r.2.1, put t r.2.2))
def liftG (g : σ → List Int → List Int × Nat × σ) : τ → List Int → List Int × Nat × τ := fun t l => ((g (get t) l).1, (g (get t) l).2.1, put t (g (get t) l).2.2)
variable {get put} {f : σ → List Int → Option (List Int × Nat × σ)} {g : σ → List Int → List Int × Nat × σ}
theorem liftF_some {t t' : τ} {l o : List Int} {k : Nat} (h : liftF get put f t l = some (o, k, t')) : ∃ s', f (get t) l = some (o, k, s') ∧ put t s' = t' := by
  unfold liftF at h
  cases hq : f (get t) l with
  | none => rw [hq] at h; cases h
  | some r =>
    obtain ⟨o2, k2, s2⟩ := r
    rw [hq] at h
    simp only [Option.map_some, Option.some.injEq, Prod.mk.injEq] at h
    obtain ⟨rfl, rfl, rfl⟩ := h
    exact ⟨s2, rfl, rfl⟩
theorem liftF_none {t : τ} {l : List Int} : liftF get put f t l = none ↔ f (get t) l = none := by
  unfold liftF
  cases f (get t) l <;> simp
theorem lift_steps (hf : Steps f) : Steps (liftF get put f) where
  size := by
    intro t l o k t' h
    obtain ⟨s', h1, _⟩ := liftF_some h
    exact hf.size _ _ _ _ _ h1
  stay := by
    intro t l u r h
    obtain ⟨o, k, t'⟩ := r
    obtain ⟨s', h1, h2⟩ := liftF_some h
    unfold liftF
    rw [hf.stay _ _ u _ h1]
    simp [h2]
theorem lift_whole (hp : ∀ t s, get (put t s) = s) (hg : Whole f g) : Whole (liftF get put f) (liftG get put g) where
  size := fun t l hl => hg.size (get t) l hl
  take := by
    intro t l o k t' n h hk hn hx
    obtain ⟨s', h1, rfl⟩ := liftF_some h
    have := hg.take (get t) l o k s' n h1 hk hn (by
      rcases hx with hx | ⟨o2, k2, t2, h2, h3⟩
      · exact .inl hx
      · obtain ⟨s2, h4, _⟩ := liftF_some h2
        rw [hp] at h4
        exact .inr ⟨o2, k2, s2, h4, h3⟩)
    unfold liftG
    rw [this]
  all := by
    intro t l o k t' h
    obtain ⟨s', h1, rfl⟩ := liftF_some h
    unfold liftG
    rw [hg.all _ _ _ _ _ h1]
theorem lift_run (hp : ∀ t s, get (put t s) = s) (hpp : ∀ t s s', put (put t s) s' = put t s') (hpg : ∀ t, put t (get t) = t) (hf : Steps f) (t : τ) (l : List Int) :
    Run (liftF get put f) t l = ((Run f (get t) l).1, put t (Run f (get t) l).2.1, (Run f (get t) l).2.2) := by
  have H : ∀ s l, ∀ t : τ, get t = s → Run (liftF get put f) t l = ((Run f s l).1, put t (Run f s l).2.1, (Run f s l).2.2) := by
    intro s l
    refine Run_ind (C := fun s l => ∀ t : τ, get t = s → Run (liftF get put f) t l = ((Run f s l).1, put t (Run f s l).2.1, (Run f s l).2.2)) hf ?_ ?_ s l
    · intro s l h t ht
      rw [Run_wait h, Run_wait (liftF_none.2 (by rw [ht]; exact h))]
      subst ht
      simp only [hpg]
    · intro s l o k s' h ih t ht
      subst ht
      have h2 : liftF get put f t l = some (o, k, put t s') := by unfold liftF; rw [h]; rfl
      rw [Run_step hf h, Run_step (lift_steps hf) h2, ih (put t s') (hp t s')]
      simp only [hpp]
  exact H _ l t rfl
theorem lift_tot (hp : ∀ t s, get (put t s) = s) (hpp : ∀ t s s', put (put t s) s' = put t s') (hpg : ∀ t, put t (get t) = t) (hs : ∀ s l, l ≠ [] → 1 ≤ (g s l).2.1 ∧ (g s l).2.1 ≤ l.length) : ∀ (n : Nat) (t : τ) (l : List Int), l.length ≤ n →
    Tot (liftG get put g) t l = ((Tot g (get t) l).1, put t (Tot g (get t) l).2)
  | 0, t, l, h => by
    have : l = [] := List.eq_nil_of_length_eq_zero (by omega)
    subst this
    rw [Tot_nil, Tot_nil]; simp only [hpg]
  | n + 1, t, l, h => by
    by_cases hl : l = []
    · subst hl; rw [Tot_nil, Tot_nil]; simp only [hpg]
    · have h3 := hs (get t) l hl
      rw [Tot_step hs (s' := (g (get t) l).2.2) (o := (g (get t) l).1) (k := (g (get t) l).2.1) hl rfl]
      rw [Tot_step (g := liftG get put g) (fun t l hl => hs (get t) l hl) (s' := put t (g (get t) l).2.2) (o := (g (get t) l).1) (k := (g (get t) l).2.1) hl rfl]
      rw [lift_tot hp hpp hpg hs n (put t (g (get t) l).2.2) (l.drop (g (get t) l).2.1) (by simp; omega)]
      simp only [hp, hpp]
end

/-- The state of a decoder: which signs, whether an escape stood just ahead, whether it has stopped. -/
abbrev St := Int × Bool × Bool
def st0 : St := (0, false, false)
def getU (_ : St) : Unit := ()
def putU (t : St) (_ : Unit) : St := t
def getK (t : St) : Int × Bool := (t.1, t.2.1)
def putK (t : St) (s : Int × Bool) : St := (s.1, s.2, t.2.2)
def getX (t : St) : Bool := t.2.2
def putX (t : St) (b : Bool) : St := (t.1, t.2.1, b)

def FE (e : Int) : St → List Int → Option (List Int × Nat × St) :=
  if e = 1 then liftF getU putU f8 else if e = 2 then liftF getU putU (f16 false) else if e = 3 then liftF getU putU (f16 true) else if e = 4 then liftF getU putU (fS false) else if e = 5 then liftF getU putU (fS true) else if e = 6 then liftF getK putK fk else liftF getX putX fX
def GE (e : Int) : St → List Int → List Int × Nat × St :=
  if e = 1 then liftG getU putU g8 else if e = 2 then liftG getU putU (g16 false) else if e = 3 then liftG getU putU (g16 true) else if e = 4 then liftG getU putU (gS false) else if e = 5 then liftG getU putU (gS true) else if e = 6 then liftG getK putK gk else liftG getX putX gX
theorem FE_steps (e : Int) : Steps (FE e) := by
  unfold FE
  split
  · exact lift_steps f8_steps
  · split
    · exact lift_steps (f16_steps false)
    · split
      · exact lift_steps (f16_steps true)
      · split
        · exact lift_steps (fS_steps false)
        · split
          · exact lift_steps (fS_steps true)
          · split
            · exact lift_steps fk_steps
            · exact lift_steps fX_steps
theorem GE_whole (e : Int) : Whole (FE e) (GE e) := by
  unfold FE GE
  split
  · exact lift_whole (fun _ _ => rfl) g8_whole
  · split
    · exact lift_whole (fun _ _ => rfl) (g16_whole false)
    · split
      · exact lift_whole (fun _ _ => rfl) (g16_whole true)
      · split
        · exact lift_whole (fun _ _ => rfl) (gS_whole false)
        · split
          · exact lift_whole (fun _ _ => rfl) (gS_whole true)
          · split
            · exact lift_whole (fun _ _ => rfl) gk_whole
            · exact lift_whole (fun _ _ => rfl) gX_whole
/-- What is told of bytes that came, and what waits; what is told if nothing more comes. -/
def RE (e : Int) (t : St) (l : List Int) : List Int × St × List Int := Run (FE e) t l
def TE (e : Int) (t : St) (l : List Int) : List Int × St := Tot (GE e) t l
def decE (e : Int) (l : List Int) : List Int := (TE e st0 l).1

theorem RE_8 (t : St) (l : List Int) : RE 1 t l = ((Run f8 () l).1, t, (Run f8 () l).2.2) := lift_run (get := getU) (put := putU) (fun _ _ => rfl) (fun _ _ _ => rfl) (fun _ => rfl) f8_steps t l
theorem RE_16l (t : St) (l : List Int) : RE 2 t l = ((Run (f16 false) () l).1, t, (Run (f16 false) () l).2.2) := lift_run (get := getU) (put := putU) (fun _ _ => rfl) (fun _ _ _ => rfl) (fun _ => rfl) (f16_steps false) t l
theorem RE_16b (t : St) (l : List Int) : RE 3 t l = ((Run (f16 true) () l).1, t, (Run (f16 true) () l).2.2) := lift_run (get := getU) (put := putU) (fun _ _ => rfl) (fun _ _ _ => rfl) (fun _ => rfl) (f16_steps true) t l
theorem RE_L (t : St) (l : List Int) : RE 4 t l = (decS false l, t, []) := by
  have := lift_run (get := getU) (put := putU) (fun _ _ => rfl) (fun _ _ _ => rfl) (fun _ => rfl) (fS_steps false) t l
  rw [fS_run] at this; exact this
theorem RE_U (t : St) (l : List Int) : RE 5 t l = (decS true l, t, []) := by
  have := lift_run (get := getU) (put := putU) (fun _ _ => rfl) (fun _ _ _ => rfl) (fun _ => rfl) (fS_steps true) t l
  rw [fS_run] at this; exact this
theorem RE_K (t : St) (l : List Int) : RE 6 t l = ((Run fk (t.1, t.2.1) l).1, ((Run fk (t.1, t.2.1) l).2.1.1, (Run fk (t.1, t.2.1) l).2.1.2, t.2.2), (Run fk (t.1, t.2.1) l).2.2) := lift_run (get := getK) (put := putK) (fun _ _ => rfl) (fun _ _ _ => rfl) (fun _ => rfl) fk_steps t l
theorem RE_X (t : St) (l : List Int) : RE 7 t l = (if t.2.2 || l.isEmpty then [] else [65533], (t.1, t.2.1, t.2.2 || !l.isEmpty), []) := by
  have := lift_run (get := getX) (put := putX) (fun _ _ => rfl) (fun _ _ _ => rfl) (fun _ => rfl) fX_steps t l
  rw [fX_run] at this; exact this
theorem TE_8 (t : St) (l : List Int) : TE 1 t l = (dec l, t) := by
  have := lift_tot (get := getU) (put := putU) (fun _ _ => rfl) (fun _ _ _ => rfl) (fun _ => rfl) g8_size l.length t l (Nat.le_refl _)
  rw [show Tot g8 (getU t) l = ((Tot g8 () l).1, ()) from rfl, g8_dec] at this; exact this
theorem TE_16 (big : Bool) (t : St) (l : List Int) : TE (if big then 3 else 2) t l = (dec16 big l, t) := by
  have := lift_tot (get := getU) (put := putU) (fun _ _ => rfl) (fun _ _ _ => rfl) (fun _ => rfl) (g16_size big) l.length t l (Nat.le_refl _)
  rw [show Tot (g16 big) (getU t) l = ((Tot (g16 big) () l).1, ()) from rfl, g16_dec big _ l (Nat.le_refl _)] at this
  cases big <;> exact this
theorem TE_S (user : Bool) (t : St) (l : List Int) : TE (if user then 5 else 4) t l = (decS user l, t) := by
  have := lift_tot (get := getU) (put := putU) (fun _ _ => rfl) (fun _ _ _ => rfl) (fun _ => rfl) (gS_whole user).size l.length t l (Nat.le_refl _)
  rw [show Tot (gS user) (getU t) l = ((Tot (gS user) () l).1, ()) from rfl, gS_dec user] at this
  cases user <;> exact this
theorem TE_K (t : St) (l : List Int) : TE 6 t l = ((Tot gk (t.1, t.2.1) l).1, ((Tot gk (t.1, t.2.1) l).2.1, (Tot gk (t.1, t.2.1) l).2.2, t.2.2)) := lift_tot (get := getK) (put := putK) (fun _ _ => rfl) (fun _ _ _ => rfl) (fun _ => rfl) gk_size l.length t l (Nat.le_refl _)
theorem TE_X (t : St) (l : List Int) : TE 7 t l = (if t.2.2 || l.isEmpty then [] else [65533], (t.1, t.2.1, t.2.2 || !l.isEmpty)) := by
  have := lift_tot (get := getX) (put := putX) (fun _ _ => rfl) (fun _ _ _ => rfl) (fun _ => rfl) gX_whole.size l.length t l (Nat.le_refl _)
  rw [gX_tot] at this; exact this

/-! ### what waits -/
theorem f8_waits (l : List Int) : ((Run f8 () l).2.2.length : Int) = spl l := by
  refine Run_ind (C := fun s l => ((Run f8 s l).2.2.length : Int) = spl l) f8_steps ?_ ?_ () l
  · intro s l h
    rw [Run_wait h]
    by_cases hl : l = []
    · subst hl; rfl
    · unfold f8 at h
      rw [if_neg hl] at h
      have ho : (nxt l).2.2 = true := by
        cases hq : (nxt l).2.2 with
        | true => rfl
        | false => rw [hq] at h; cases h
      have e := nxt_open (l := l) (q := (nxt l).1) (j := (nxt l).2.1) (by rw [← ho])
      unfold spl lft
      rw [pieces_ne hl, List.foldl_cons, ho, e.2.1]
      simp [pieces_nil]
  · intro s l o k s' h ih
    rw [Run_step f8_steps h]
    unfold f8 at h
    split at h
    · cases h
    · rename_i hl
      split at h
      · cases h
      · rename_i ho
        simp only [Option.some.injEq, Prod.mk.injEq] at h
        obtain ⟨rfl, rfl, _⟩ := h
        rw [spl_ne hl (Bool.eq_false_iff.2 ho), ← ih]
/-- How many integers of UTF-16 wait at the end. -/
def lastW (big : Bool) : List Int → Int
  | [a, b] => ut big a b
  | [a, b, _] => ut big a b
  | _ :: _ :: t => lastW big t
  | _ => 0
theorem lastW_drop (big : Bool) (a b : Int) {t : List Int} (h : 2 ≤ t.length) : lastW big (a :: b :: t) = lastW big t := by
  match t, h with
  | c :: d :: [], _ => rfl
  | c :: d :: e :: u, _ => rfl
theorem fst16_0 : fst16 0 = false := by decide
def wu (big : Bool) (l : List Int) : Nat := l.length % 2 + (if fst16 (lastW big l) then 2 else 0)
theorem f16_wu (big : Bool) (l : List Int) : (Run (f16 big) () l).2.2.length = wu big l := by
  refine Run_ind (C := fun s l => (Run (f16 big) s l).2.2.length = wu big l) (f16_steps big) ?_ ?_ () l
  · intro s l h
    rw [Run_wait h]
    match l, h with
    | [], _ => rfl
    | [a], _ => rfl
    | [a, b], h =>
      cases hq : fst16 (ut big a b) with
      | true => simp [wu, lastW, hq]
      | false => simp [f16, hq] at h
    | [a, b, c], h =>
      cases hq : fst16 (ut big a b) with
      | true => simp [wu, lastW, hq]
      | false => simp [f16, hq] at h
    | a :: b :: c :: d :: t, h =>
      simp only [f16] at h
      split at h
      · split at h <;> cases h
      · cases h
  · intro s l o k s' h ih
    rw [Run_step (f16_steps big) h]
    show (Run (f16 big) s' (l.drop k)).2.2.length = wu big l
    rw [ih]
    match l, h with
    | [a, b], h =>
      cases hq : fst16 (ut big a b) with
      | true => simp [f16, hq] at h
      | false =>
        simp only [f16, hq] at h
        obtain ⟨rfl, rfl, _⟩ := h
        simp [wu, lastW, hq, fst16_0]
    | [a, b, c], h =>
      cases hq : fst16 (ut big a b) with
      | true => simp [f16, hq] at h
      | false =>
        simp only [f16, hq] at h
        obtain ⟨rfl, rfl, _⟩ := h
        simp [wu, lastW, hq, fst16_0]
    | a :: b :: c :: d :: t, h =>
      have e1 : lastW big (a :: b :: c :: d :: t) = lastW big (c :: d :: t) := lastW_drop big a b (by simp)
      cases hq : fst16 (ut big a b) with
      | false =>
        simp only [f16, hq] at h
        obtain ⟨rfl, rfl, _⟩ := h
        simp only [wu, e1]; simp; omega
      | true =>
        cases hs : snd16 (ut big c d) with
        | true =>
          simp only [f16, hq, hs, if_true, Option.some.injEq, Prod.mk.injEq] at h
          obtain ⟨rfl, rfl, _⟩ := h
          have hnf : fst16 (ut big c d) = false := by
            simp only [snd16, decide_eq_true_eq] at hs
            simp only [fst16, decide_eq_false_iff_not]; omega
          simp only [wu, e1]
          match t with
          | [] => simp [lastW, hnf, fst16_0]
          | [x] => simp [lastW, hnf, fst16_0]
          | x :: y :: u => rw [lastW_drop big c d (by simp)]; simp; omega
        | false =>
          simp only [f16, hq, hs, if_true] at h
          obtain ⟨rfl, rfl, _⟩ := h
          simp only [wu, e1]; simp; omega
/-- How many integers of shifted signs wait at the end. -/
def wk (l : List Int) : Nat := if [27, 40] <:+ l then 2 else if [27] <:+ l then 1 else 0
theorem suffix_cons {c : Int} {t m : List Int} (h : m.length ≤ t.length) : m <:+ (c :: t) ↔ m <:+ t := by
  constructor
  · rintro ⟨p, hp⟩
    match p, hp with
    | [], hp => have := congrArg List.length hp; simp at this; omega
    | x :: p, hp => exact ⟨p, by simpa using (List.cons.inj hp).2⟩
  · rintro ⟨p, rfl⟩; exact ⟨c :: p, rfl⟩
theorem fk_wk (h : Int × Bool) (l : List Int) : (Run fk h l).2.2.length = wk l := by
  refine Run_ind (C := fun s l => (Run fk s l).2.2.length = wk l) fk_steps ?_ ?_ h l
  · intro s l h
    rw [Run_wait h]
    rcases fk_waits h with rfl | rfl | rfl
    · show 0 = wk []; decide
    · show 1 = wk [27]; decide
    · show 2 = wk [27, 40]; decide
  · intro s l o k s' h ih
    rw [Run_step fk_steps h]
    show (Run fk s' (l.drop k)).2.2.length = wk l
    rw [ih]
    match l, h with
    | [c], h =>
      simp only [fk] at h
      split at h
      · rename_i hc
        simp only [Option.some.injEq, Prod.mk.injEq] at h; obtain ⟨rfl, rfl, rfl⟩ := h
        have h1 : ¬ ([27, 40] : List Int) <:+ [c] := fun ⟨p, hp⟩ => by have := congrArg List.length hp; simp at this
        have h2 : ¬ ([27] : List Int) <:+ [c] := fun ⟨p, hp⟩ => by
          match p, hp with
          | [], hp => exact hc (List.cons.inj hp).1.symm
          | x :: p, hp => have := congrArg List.length hp; simp at this
        simp [wk, h1, h2]
      · cases h
    | [c, d], h =>
      have hk : k = 1 ∧ ¬ (c = 27 ∧ d = 40) := by
        simp only [fk] at h
        split at h
        · rename_i hc; simp only [Option.some.injEq, Prod.mk.injEq] at h; exact ⟨h.2.1.symm, fun q => hc q.1⟩
        · split at h
          · rename_i hd; simp only [Option.some.injEq, Prod.mk.injEq] at h; exact ⟨h.2.1.symm, fun q => hd q.2⟩
          · cases h
      obtain ⟨rfl, hn⟩ := hk
      have h1 : ¬ ([27, 40] : List Int) <:+ [c, d] := fun ⟨p, hp⟩ => by
        match p, hp with
        | [], hp => injection hp with e1 e2; injection e2 with e2 _; exact hn ⟨e1.symm, e2.symm⟩
        | x :: p, hp => have := congrArg List.length hp; simp at this
      have h3 : ¬ ([27, 40] : List Int) <:+ [d] := fun ⟨p, hp⟩ => by have := congrArg List.length hp; simp at this
      have h2 : ([27] : List Int) <:+ [c, d] ↔ ([27] : List Int) <:+ [d] := suffix_cons (by simp)
      simp only [wk, h1, h2]
      simp [h3]
    | c :: d :: e :: t, h =>
      have hk : k = 1 ∨ k = 3 ∧ d = 40 ∧ e ≠ 27 ∧ e ≠ 40 := by
        simp only [fk] at h
        split at h
        · simp only [Option.some.injEq, Prod.mk.injEq] at h; exact .inl h.2.1.symm
        · split at h
          · simp only [Option.some.injEq, Prod.mk.injEq] at h; exact .inl h.2.1.symm
          · rename_i hd
            simp at hd
            split at h
            · simp only [Option.some.injEq, Prod.mk.injEq] at h; exact .inr ⟨h.2.1.symm, by omega, by omega, by omega⟩
            · split at h
              · simp only [Option.some.injEq, Prod.mk.injEq] at h; exact .inr ⟨h.2.1.symm, by omega, by omega, by omega⟩
              · split at h
                · simp only [Option.some.injEq, Prod.mk.injEq] at h; exact .inr ⟨h.2.1.symm, by omega, by omega, by omega⟩
                · simp only [Option.some.injEq, Prod.mk.injEq] at h; exact .inl h.2.1.symm
      have a1 : ([27, 40] : List Int) <:+ c :: d :: e :: t ↔ ([27, 40] : List Int) <:+ d :: e :: t := suffix_cons (by simp)
      have a2 : ([27] : List Int) <:+ c :: d :: e :: t ↔ ([27] : List Int) <:+ d :: e :: t := suffix_cons (by simp)
      rcases hk with rfl | ⟨rfl, hd, he, he2⟩
      · simp only [wk, a1, a2]; simp
      · have b2 : ([27] : List Int) <:+ d :: e :: t ↔ ([27] : List Int) <:+ e :: t := suffix_cons (by simp)
        have b1 : ([27, 40] : List Int) <:+ d :: e :: t ↔ ([27, 40] : List Int) <:+ e :: t := by
          match t with
          | [] =>
            constructor
            · rintro ⟨p, hp⟩
              match p, hp with
              | [], hp => injection hp with e1 e2; omega
              | x :: p, hp => have := congrArg List.length hp; simp at this
            · rintro ⟨p, hp⟩; have := congrArg List.length hp; simp at this
          | x :: u => exact suffix_cons (by simp)
        have c2 : ([27] : List Int) <:+ e :: t ↔ ([27] : List Int) <:+ t := by
          match t with
          | [] =>
            constructor
            · rintro ⟨p, hp⟩
              match p, hp with
              | [], hp => injection hp with e1 e2; omega
              | x :: p, hp => have := congrArg List.length hp; simp at this
            · rintro ⟨p, hp⟩; have := congrArg List.length hp; simp at this
          | x :: u => exact suffix_cons (by simp)
        have c1 : ([27, 40] : List Int) <:+ e :: t ↔ ([27, 40] : List Int) <:+ t := by
          match t with
          | [] =>
            constructor
            · rintro ⟨p, hp⟩; have := congrArg List.length hp; simp at this
            · rintro ⟨p, hp⟩; have := congrArg List.length hp; simp at this
          | [x] =>
            constructor
            · rintro ⟨p, hp⟩
              match p, hp with
              | [], hp => injection hp with e1 e2; omega
              | x :: p, hp => have := congrArg List.length hp; simp at this
            · rintro ⟨p, hp⟩; have := congrArg List.length hp; simp at this
          | x :: y :: u => exact suffix_cons (by simp)
        simp only [wk, a1, a2, b1, b2, c1, c2]
        simp
/-- How many integers wait at the end of a text, of each encoding. -/
def wE (e : Int) (l : List Int) : Int := if e = 1 then spl l else if e = 2 then wu false l else if e = 3 then wu true l else if e = 6 then wk l else 0
theorem RE_waits {e : Int} (he : 1 ≤ e ∧ e ≤ 7) (t : St) (l : List Int) : ((RE e t l).2.2.length : Int) = wE e l := by
  obtain rfl | rfl | rfl | rfl | rfl | rfl | rfl : e = 1 ∨ e = 2 ∨ e = 3 ∨ e = 4 ∨ e = 5 ∨ e = 6 ∨ e = 7 := by omega
  · rw [RE_8]; exact f8_waits l
  · rw [RE_16l]; show ((Run (f16 false) () l).2.2.length : Int) = _; rw [f16_wu]; rfl
  · rw [RE_16b]; show ((Run (f16 true) () l).2.2.length : Int) = _; rw [f16_wu]; rfl
  · rw [RE_L]; rfl
  · rw [RE_U]; rfl
  · rw [RE_K]; show ((Run fk (t.1, t.2.1) l).2.2.length : Int) = _; rw [fk_wk]; rfl
  · rw [RE_X]; rfl
end Go.Proofs.YtaiinjfnkmidbaaGreatDoor.M

namespace Go.Proofs.YtaiinjfnkmidbaaGreatDoor.M

def Ok (e : Int) (t : St) : Prop := Sg t.1 ∧ (e ≠ 6 → t.1 = 0 ∧ t.2.1 = false) ∧ (e ≠ 7 → t.2.2 = false)
theorem Ok_st0 (e : Int) : Ok e st0 := ⟨.inl rfl, fun _ => ⟨rfl, rfl⟩, fun _ => rfl⟩
theorem fk_sg {s s' : Int × Bool} {l o : List Int} {k : Nat} (h : fk s l = some (o, k, s')) (hs : Sg s.1) : Sg s'.1 := by
  have := (gk_all s l o k s' h).1
  unfold gk at this
  cases he : kesc l with
  | none => rw [he] at this; injection this with _ h2; injection h2 with _ h3; rw [← h3]; exact hs
  | some g => rw [he] at this; injection this with _ h2; injection h2 with _ h3; rw [← h3]; exact (kesc_len he).2
theorem Run_sg (s : Int × Bool) (l : List Int) : Sg s.1 → Sg (Run fk s l).2.1.1 := by
  refine Run_ind (C := fun s l => Sg s.1 → Sg (Run fk s l).2.1.1) fk_steps ?_ ?_ s l
  · intro s l h hs; rw [Run_wait h]; exact hs
  · intro s l o k s' h ih hs; rw [Run_step fk_steps h]; exact ih (fk_sg h hs)
theorem seven {e : Int} (he : 1 ≤ e ∧ e ≤ 7) : e = 1 ∨ e = 2 ∨ e = 3 ∨ e = 4 ∨ e = 5 ∨ e = 6 ∨ e = 7 := by omega
theorem Ok_run {e : Int} (he : 1 ≤ e ∧ e ≤ 7) {t : St} (h : Ok e t) (l : List Int) : Ok e (RE e t l).2.1 := by
  obtain rfl | rfl | rfl | rfl | rfl | rfl | rfl := seven he
  · rw [RE_8]; exact h
  · rw [RE_16l]; exact h
  · rw [RE_16b]; exact h
  · rw [RE_L]; exact h
  · rw [RE_U]; exact h
  · rw [RE_K]; exact ⟨Run_sg _ l h.1, fun q => absurd rfl q, fun q => h.2.2 q⟩
  · rw [RE_X]; exact ⟨h.1, h.2.1, fun q => absurd rfl q⟩
theorem spl_le (l : List Int) : spl l ≤ 3 := by
  obtain ⟨n, h, h3, _⟩ := cut_at l
  rw [h]; omega
theorem wE_bd {e : Int} (he : 1 ≤ e ∧ e ≤ 7) (l : List Int) : 0 ≤ wE e l ∧ wE e l ≤ 3 ∧ wE e l ≤ l.length := by
  have h := RE_waits he st0 l
  obtain ⟨n, hn, hl⟩ := Run_end (FE_steps e) st0 l
  have h2 : (RE e st0 l).2.2.length ≤ l.length := by
    show (Run (FE e) st0 l).2.2.length ≤ _
    rw [hn, List.length_drop]; omega
  refine ⟨by omega, ?_, by omega⟩
  obtain rfl | rfl | rfl | rfl | rfl | rfl | rfl := seven he
  · exact spl_le l
  · show ((wu false l : Nat) : Int) ≤ 3
    unfold wu; split <;> omega
  · show ((wu true l : Nat) : Int) ≤ 3
    unfold wu; split <;> omega
  · show (0 : Int) ≤ 3; omega
  · show (0 : Int) ≤ 3; omega
  · show ((wk l : Nat) : Int) ≤ 3
    unfold wk; split
    · omega
    · split <;> omega
  · show (0 : Int) ≤ 3; omega
/-- What waits: the end of the text, of that length. -/
theorem RE_rest {e : Int} (he : 1 ≤ e ∧ e ≤ 7) (t : St) (l : List Int) : (RE e t l).2.2 = l.drop (l.length - (wE e l).toNat) := by
  have h := RE_waits he t l
  have hb := wE_bd he l
  obtain ⟨n, hn, hl⟩ := Run_end (FE_steps e) t l
  have hn' : (RE e t l).2.2 = l.drop n := hn
  have h2 := congrArg List.length hn'
  rw [List.length_drop] at h2
  rw [hn']
  congr 1
  omega
/-- What is told of all that does not wait. -/
theorem TE_take {e : Int} (he : 1 ≤ e ∧ e ≤ 7) (t : St) (l : List Int) : TE e t (l.take (l.length - (wE e l).toNat)) = ((RE e t l).1, (RE e t l).2.1) :=
  Tot_take (FE_steps e) (GE_whole e) t l _ (Nat.sub_le _ _) (RE_rest he t l)
theorem RE_few {e : Int} (he : 1 ≤ e ∧ e ≤ 7) (t : St) (l : List Int) : (RE e t l).2.2.length ≤ 3 := by
  have h := RE_waits he t l
  have := wE_bd he l
  omega
/-- What waits waits again. -/
theorem RE_left {e : Int} (he : 1 ≤ e ∧ e ≤ 7) (t : St) (l : List Int) : wE e (RE e t l).2.2 = (RE e t l).2.2.length := by
  have h := Run_left (FE_steps e) t l
  have h2 := RE_waits he (RE e t l).2.1 (RE e t l).2.2
  have h3 : RE e (RE e t l).2.1 (RE e t l).2.2 = ([], (RE e t l).2.1, (RE e t l).2.2) := Run_wait h
  rw [h3] at h2
  exact h2.symm
theorem RE_app (e : Int) (t : St) (l m : List Int) : RE e t (l ++ m) = ((RE e t l).1 ++ (RE e (RE e t l).2.1 ((RE e t l).2.2 ++ m)).1, (RE e (RE e t l).2.1 ((RE e t l).2.2 ++ m)).2) := Run_app (FE_steps e) t l m
theorem TE_run (e : Int) (t : St) (l : List Int) : TE e t l = ((RE e t l).1 ++ (TE e (RE e t l).2.1 (RE e t l).2.2).1, (TE e (RE e t l).2.1 (RE e t l).2.2).2) := Tot_run (FE_steps e) (GE_whole e) t l
theorem GE_few (e : Int) (t : St) (l : List Int) (hl : l ≠ []) : (GE e t l).1.length ≤ (GE e t l).2.1 := by
  have h8 := g8_size () l hl
  unfold GE
  split
  · exact h8.1
  · split
    · exact (g16_size false () l hl).1
    · split
      · exact (g16_size true () l hl).1
      · split
        · exact Nat.le_refl _
        · split
          · exact Nat.le_refl _
          · split
            · show (gk (getK t) l).1.length ≤ (gk (getK t) l).2.1
              unfold gk
              cases kesc l with
              | none => exact Nat.le_refl _
              | some g => show (bads _).length ≤ 3; unfold bads; split <;> simp
            · show (if (getX t) then ([] : List Int) else [65533]).length ≤ 1; split <;> simp
theorem TE_few (e : Int) : ∀ (n : Nat) (t : St) (l : List Int), l.length ≤ n → (TE e t l).1.length ≤ l.length
  | 0, t, l, h => by
    have : l = [] := List.eq_nil_of_length_eq_zero (by omega)
    subst this; unfold TE; rw [Tot_nil]; simp
  | n + 1, t, l, h => by
    by_cases h0 : l = []
    · subst h0; unfold TE; rw [Tot_nil]; simp
    · have hs := (GE_whole e).size t l h0
      have hf := GE_few e t l h0
      have ih := TE_few e n (GE e t l).2.2 (l.drop (GE e t l).2.1) (by simp; omega)
      unfold TE at *
      rw [Tot_step (GE_whole e).size (s' := (GE e t l).2.2) (o := (GE e t l).1) (k := (GE e t l).2.1) h0 rfl]
      simp only [List.length_append]
      rw [List.length_drop] at ih
      omega
theorem RE_out {e : Int} (he : 1 ≤ e ∧ e ≤ 7) (t : St) (l : List Int) : (RE e t l).1.length ≤ l.length := by
  have h := TE_take he t l
  have h2 := TE_few e _ t (l.take (l.length - (wE e l).toNat)) (Nat.le_refl _)
  rw [h, List.length_take] at h2
  have h3 : (RE e t l).1.length ≤ min (l.length - (wE e l).toNat) l.length := h2
  omega
end Go.Proofs.YtaiinjfnkmidbaaGreatDoor.M

namespace Go.Proofs.YtaiinjfnkmidbaaGreatDoor
open Go.RowKit
set_option linter.unusedVariables false

/-- The encoding that is chosen, why, and how many bytes of a mark stand ahead. -/
def chI (name : ByteArray) (l : List Int) : Int × Int × Int :=
  if (M.sn l).1 ≠ 0 then ((M.sn l).1, 1, (M.sn l).2) else if findI name ≠ 0 then (findI name, 2, 0) else if scnI l ≠ 0 then (scnI l, 3, 0) else (4, 4, 0)
/-- Is it enough to choose? -/
def enF (name : ByteArray) (l : List Int) : Bool := decide ((M.sn l).1 ≠ 0) || (decide (256 ≤ l.length) || (decide (findI name ≠ 0) && decide (3 ≤ l.length)))
theorem may_long {l : List Int} (h : 3 ≤ l.length) : M.may l = false := by
  unfold M.may
  refine decide_eq_false ?_
  rintro (rfl | rfl | rfl | rfl | rfl) <;> simp at h
theorem chI_mark {name : ByteArray} {l : List Int} (h : (M.sn l).1 ≠ 0) : chI name l = ((M.sn l).1, 1, (M.sn l).2) := by unfold chI; rw [if_pos h]
theorem chI_label {name : ByteArray} {l : List Int} (h : (M.sn l).1 = 0) (h1 : findI name ≠ 0) : chI name l = (findI name, 2, 0) := by unfold chI; rw [if_neg (by simp [h]), if_pos h1]
theorem chI_meta {name : ByteArray} {l : List Int} (h : (M.sn l).1 = 0) (h1 : findI name = 0) (h2 : scnI l ≠ 0) : chI name l = (scnI l, 3, 0) := by unfold chI; rw [if_neg (by simp [h]), if_neg (by simp [h1]), if_pos h2]
theorem chI_none {name : ByteArray} {l : List Int} (h : (M.sn l).1 = 0) (h1 : findI name = 0) (h2 : scnI l = 0) : chI name l = (4, 4, 0) := by unfold chI; rw [if_neg (by simp [h]), if_neg (by simp [h1]), if_neg (by simp [h2])]
/-- Where it is enough, what comes behind changes nothing. -/
theorem chI_more {name : ByteArray} {l : List Int} (h : enF name l = true) (m : List Int) : chI name (l ++ m) = chI name l := by
  by_cases h0 : (M.sn l).1 = 0
  · have h3 : 3 ≤ l.length := by
      unfold enF at h
      simp [h0] at h
      omega
    have hs : (M.sn (l ++ m)).1 = 0 := M.sn_none h0 (may_long h3) m
    by_cases h1 : findI name = 0
    · have h256 : 256 ≤ l.length := by
        unfold enF at h
        simp [h0, h1] at h
        exact h
      have e := scnI_more (l := l) (m := m) h256
      by_cases h2 : scnI l = 0
      · rw [chI_none h0 h1 h2, chI_none hs h1 (by rw [e]; exact h2)]
      · rw [chI_meta h0 h1 h2, chI_meta hs h1 (by rw [e]; exact h2), e]
    · rw [chI_label h0 h1, chI_label hs h1]
  · have e := (M.sn_some h0 m).1
    rw [chI_mark h0, chI_mark (by rw [e]; exact h0), e]
theorem enF_more {name : ByteArray} {l : List Int} (h : enF name l = true) (m : List Int) : enF name (l ++ m) = true := by
  unfold enF at *
  simp only [Bool.or_eq_true, Bool.and_eq_true, decide_eq_true_eq, List.length_append] at *
  rcases h with h | h | h
  · exact .inl (by rw [(M.sn_some h m).1]; exact h)
  · exact .inr (.inl (by omega))
  · exact .inr (.inr ⟨h.1, by omega⟩)
theorem enF_few {name : ByteArray} {l : List Int} (h : enF name l = false) : l.length < 256 := by
  unfold enF at h
  simp only [Bool.or_eq_false_iff, decide_eq_false_iff_not] at h
  omega
theorem sn_bd (l : List Int) : 0 ≤ (M.sn l).1 ∧ (M.sn l).1 ≤ 3 ∧ 0 ≤ (M.sn l).2 ∧ (M.sn l).2 ≤ 3 ∧ (M.sn l).2 ≤ l.length := by
  rcases M.sn_cases l with ⟨t, rfl, e⟩ | ⟨t, rfl, e⟩ | ⟨t, rfl, e⟩ | ⟨e, _⟩ <;> rw [e] <;> simp <;> omega
theorem chI_bd (name : ByteArray) (l : List Int) : (1 ≤ (chI name l).1 ∧ (chI name l).1 ≤ 7) ∧ (1 ≤ (chI name l).2.1 ∧ (chI name l).2.1 ≤ 4) ∧ 0 ≤ (chI name l).2.2 ∧ (chI name l).2.2 ≤ 3 ∧ (chI name l).2.2 ≤ l.length := by
  have hs := sn_bd l
  have hf := findI_bd name
  obtain ⟨t0, t7, _, _, _⟩ := scnI_told l
  unfold chI
  split
  · simp only; omega
  · split
    · simp only; omega
    · split
      · simp only; omega
      · simp
/-- What a whole text tells, its encoding, and why. -/
def whI (name : ByteArray) (l : List Int) : List Int := M.decE (chI name l).1 (l.drop (chI name l).2.2.toNat)
end Go.Proofs.YtaiinjfnkmidbaaGreatDoor

namespace Go.Proofs.YtaiinjfnkmidbaaGreatDoor
open Go.RowKit
set_option linter.unusedVariables false

theorem beq_nums (u : ByteArray) (ms : List Int) (cs : List UInt8) (hc : (strOfNums ms).toList = cs) (hb : bl (strOfNums ms) = ms) : (u.toList == cs) = decide (bl u = ms) := by
  rw [Bool.eq_iff_iff]
  simp only [beq_iff_eq, decide_eq_true_eq]
  constructor
  · intro h
    have : u = strOfNums ms := by
      apply ByteArray.ext
      apply Array.ext'
      rw [← Lib.toList_data, ← Lib.toList_data, h, hc]
    rw [this, hb]
  · intro h
    have : u = strOfNums ms := by rw [← h, str_bl]
    rw [this, hc]
theorem suffix_dec (s : ByteArray) (ms : List Int) (h : ms.length ≤ s.size) : decide (bl (s.extract (s.size - ms.length) s.size) = ms) = decide (ms <:+ bl s) := by
  rw [bl_extract, Bool.eq_iff_iff]
  simp only [decide_eq_true_eq]
  rw [List.suffix_iff_eq_drop, bl_len]
  exact eq_comm
theorem suffix_short (s : ByteArray) (ms : List Int) (h : s.size < ms.length) : decide (ms <:+ bl s) = false := by
  simp only [decide_eq_false_iff_not]
  intro hs
  have := hs.length_le
  rw [bl_len] at this
  omega
set_option maxHeartbeats 400000 in
set_option maxRecDepth 100000 in
theorem suffix2_any (s : ByteArray) (w : World) (hm : s.size ≤ maxLen) : Calls Tryz.prog 213 #[.string s, .string ⟨#[27, 40]⟩] w fun e w' => e = .returned (.bool (decide ([27, 40] <:+ bl s))) ∧ w' = w := by
  unfold maxLen at hm
  have hz : (⟨#[27, 40]⟩ : ByteArray).size = 2 := rfl
  by_cases h : 2 ≤ s.size
  · have HE : Hid (((s.extract (s.size - 2) s.size).toList == ([27, 40] : List UInt8)) = decide ([27, 40] <:+ bl s)) := hide (by
      rw [beq_nums _ [27, 40] _ (by rw [Lib.toList_data]; rfl) (by decide)]
      exact suffix_dec s [27, 40] h)
    go_enter Tryz.func213, Tryz.ntmps213
    go_wp2
    go_ret
    refine ⟨?_, rfl⟩
    rw [← unhide HE]; rfl
  · have HE : Hid (decide ([27, 40] <:+ bl s) = false) := hide (suffix_short s [27, 40] (show s.size < 2 by omega))
    go_enter Tryz.func213, Tryz.ntmps213
    go_wp2
    go_ret
    refine ⟨?_, rfl⟩
    rw [unhide HE]; rfl
set_option maxHeartbeats 400000 in
set_option maxRecDepth 100000 in
theorem suffix1_any (s : ByteArray) (w : World) (hm : s.size ≤ maxLen) : Calls Tryz.prog 213 #[.string s, .string ⟨#[27]⟩] w fun e w' => e = .returned (.bool (decide ([27] <:+ bl s))) ∧ w' = w := by
  unfold maxLen at hm
  have hz : (⟨#[27]⟩ : ByteArray).size = 1 := rfl
  by_cases h : 1 ≤ s.size
  · have HE : Hid (((s.extract (s.size - 1) s.size).toList == ([27] : List UInt8)) = decide ([27] <:+ bl s)) := hide (by
      rw [beq_nums _ [27] _ (by rw [Lib.toList_data]; rfl) (by decide)]
      exact suffix_dec s [27] h)
    go_enter Tryz.func213, Tryz.ntmps213
    go_wp2
    go_ret
    refine ⟨?_, rfl⟩
    rw [← unhide HE]; rfl
  · have HE : Hid (decide ([27] <:+ bl s) = false) := hide (suffix_short s [27] (show s.size < 1 by omega))
    go_enter Tryz.func213, Tryz.ntmps213
    go_wp2
    go_ret
    refine ⟨?_, rfl⟩
    rw [unhide HE]; rfl

set_option maxHeartbeats 800000 in
set_option maxRecDepth 100000 in
theorem waitsK_any (s : ByteArray) (w : World) (hm : s.size ≤ maxLen) : Calls Tryz.prog 177 #[.string s] w fun e w' => e = .returned (.int .i64 (M.wk (bl s) : Nat)) ∧ w' = w := by
  have s2 := fun w => suffix2_any s w hm
  have s1 := fun w => suffix1_any s w hm
  have hx : (⟨#[27, 40]⟩ : ByteArray).extract 0 1 = ⟨#[27]⟩ := by decide
  have hx2 : (⟨#[27, 40]⟩ : ByteArray).extract 0 2 = ⟨#[27, 40]⟩ := by decide
  have hz : (⟨#[27, 40]⟩ : ByteArray).size = 2 := rfl
  cases h2 : decide (([27, 40] : List Int) <:+ bl s)
  · rw [h2] at s2
    cases h1 : decide (([27] : List Int) <:+ bl s)
    · rw [h1] at s1
      have HW : Hid (M.wk (bl s) = 0) := hide (by unfold M.wk; rw [if_neg (of_decide_eq_false h2), if_neg (of_decide_eq_false h1)])
      clear h1 h2
      go_enter Tryz.func177, Tryz.ntmps177
      go_wp2_with fail
      refine wp_loop_rounds 3 ?_
      rw [rounds_succ]
      go_wp2_with fail
      refine (s2 _).mono ?_
      rintro e w1 ⟨rfl, hw⟩
      replace hw := hw.symm
      subst hw
      go_wp2_with fail
      rw [rounds_succ]
      go_wp2_with fail
      refine (s1 _).mono ?_
      rintro e w1 ⟨rfl, hw⟩
      replace hw := hw.symm
      subst hw
      go_wp2_with fail
      rw [rounds_succ]
      go_wp2_with fail
      go_ret
      refine ⟨?_, rfl⟩
      rw [unhide HW]; rfl
    · rw [h1] at s1
      have HW : Hid (M.wk (bl s) = 1) := hide (by unfold M.wk; rw [if_neg (of_decide_eq_false h2), if_pos (of_decide_eq_true h1)])
      clear h1 h2
      go_enter Tryz.func177, Tryz.ntmps177
      go_wp2_with fail
      refine wp_loop_rounds 3 ?_
      rw [rounds_succ]
      go_wp2_with fail
      refine (s2 _).mono ?_
      rintro e w1 ⟨rfl, hw⟩
      replace hw := hw.symm
      subst hw
      go_wp2_with fail
      rw [rounds_succ]
      go_wp2_with fail
      refine (s1 _).mono ?_
      rintro e w1 ⟨rfl, hw⟩
      replace hw := hw.symm
      subst hw
      go_wp2_with fail
      go_ret
      refine ⟨?_, rfl⟩
      rw [unhide HW]; rfl
  · rw [h2] at s2
    have HW : Hid (M.wk (bl s) = 2) := hide (by unfold M.wk; rw [if_pos (of_decide_eq_true h2)])
    clear h2
    go_enter Tryz.func177, Tryz.ntmps177
    go_wp2_with fail
    refine wp_loop_rounds 3 ?_
    rw [rounds_succ]
    go_wp2_with fail
    refine (s2 _).mono ?_
    rintro e w1 ⟨rfl, hw⟩
    replace hw := hw.symm
    subst hw
    go_wp2_with fail
    go_ret
    refine ⟨?_, rfl⟩
    rw [unhide HW]; rfl

namespace M
theorem lastW_at (big : Bool) : ∀ (n : Nat) (l : List Int), l.length ≤ n → 2 ≤ l.length → lastW big l = ut big (l.getD (l.length - l.length % 2 - 2) 0) (l.getD (l.length - l.length % 2 - 1) 0)
  | 0, l, h, h2 => by omega
  | n + 1, l, h, h2 => by
    match l, h2 with
    | [a, b], _ => simp [lastW]
    | [a, b, c], _ => simp [lastW]
    | a :: b :: c :: d :: t, _ =>
      rw [lastW_drop big a b (by simp), lastW_at big n (c :: d :: t) (by simp at h; simp; omega) (by simp)]
      have e1 : (a :: b :: c :: d :: t).length - (a :: b :: c :: d :: t).length % 2 - 2 = ((c :: d :: t).length - (c :: d :: t).length % 2 - 2) + 2 := by simp; omega
      have e2 : (a :: b :: c :: d :: t).length - (a :: b :: c :: d :: t).length % 2 - 1 = ((c :: d :: t).length - (c :: d :: t).length % 2 - 1) + 2 := by simp; omega
      rw [e1, e2]
      rfl
theorem fst_ut (big : Bool) {a b : Int} (ha : 0 ≤ a ∧ a ≤ 255) (hb : 0 ≤ b ∧ b ≤ 255) : fst16 (ut big a b) = decide (216 ≤ (if big then a else b) ∧ (if big then a else b) ≤ 219) := by
  unfold fst16 ut
  rw [Bool.eq_iff_iff]
  simp only [decide_eq_true_eq]
  cases big
  · simp only [Bool.false_eq_true, if_false]; omega
  · simp only [if_true]; omega
end M
theorem bl_getD (s : ByteArray) (k : Nat) (h : k < s.size) : (bl s).getD k 0 = (s[k].toNat : Int) := by
  simp [List.getD_eq_getElem?_getD, bl_get s k h]
/-- How many bytes of UTF-16 wait, by the bytes themselves. -/
theorem wu_at (big : Bool) (s : ByteArray) (m : Nat) (h : Nat) (hm : 2 ≤ m) (hh : h < 2) (he : s.size = m + h) (hev : m % 2 = 0) :
    M.wu big (bl s) = h + (if 216 ≤ (if big then ((s[m - 2]'(by omega)).toNat : Int) else ((s[m - 1]'(by omega)).toNat : Int)) ∧ (if big then ((s[m - 2]'(by omega)).toNat : Int) else ((s[m - 1]'(by omega)).toNat : Int)) ≤ 219 then 2 else 0) := by
  have hmod : s.size % 2 = h := by omega
  have h1 := (s[m - 2]'(by omega)).toNat_lt
  have h2 := (s[m - 1]'(by omega)).toNat_lt
  unfold M.wu
  rw [bl_len, hmod, M.lastW_at big _ (bl s) (Nat.le_refl _) (by rw [bl_len]; omega), bl_len, hmod, show s.size - h - 2 = m - 2 from by omega, show s.size - h - 1 = m - 1 from by omega, bl_getD s (m - 2) (by omega), bl_getD s (m - 1) (by omega), M.fst_ut big (by omega) (by omega)]
  simp only [decide_eq_true_eq]
theorem wu_few (big : Bool) (s : ByteArray) (h : s.size < 2) : M.wu big (bl s) = s.size := by
  unfold M.wu
  rw [bl_len]
  have : M.lastW big (bl s) = 0 := by
    have hl := bl_len s
    match hb : bl s, hl with
    | [], _ => rfl
    | [a], _ => rfl
    | a :: b :: t, hl => simp at hl; omega
  rw [this, M.fst16_0]
  simp; omega

theorem owns_one (w : World) (x : Int) : (w.alloc (.cells #[.int .i64 x] 3)).ownsRow w.heap.size 3 1 (.slice (some ⟨w.heap.size, 0, none⟩) 1 1) 1 [.int .i64 x] :=
  ⟨rfl, .inr ⟨w.heap.size, 1, #[.int .i64 x], rfl, Nat.le_refl _, heap_alloc_new w _, Nat.le_refl _, by decide, rfl, rfl⟩⟩
set_option maxHeartbeats 800000 in
set_option maxRecDepth 100000 in
theorem units_few (big : Bool) (s : ByteArray) (w : World) (h : s.size < 2) : Calls Tryz.prog 176 #[.bool big, .string s] w fun e w' => e = .returned (.int .i64 (M.wu big (bl s) : Nat)) ∧ w' = w := by
  have HW := hide (wu_few big s h)
  have hmod : (s.size : Int) % 2 = (s.size : Int) := by omega
  have hx : (s.extract 0 0).toList.isEmpty = true := by rw [isEmpty_size]; simp
  go_enter Tryz.func176, Tryz.ntmps176
  go_wp2_with fail
  go_ret
  refine ⟨?_, rfl⟩
  rw [unhide HW]; exact ret_int hmod
set_option maxHeartbeats 800000 in
set_option maxRecDepth 100000 in
theorem units_big0 (s : ByteArray) (w : World) (c : Int) (h : 2 ≤ s.size) (hm : s.size ≤ maxLen) (hev : s.size % 2 = 0) (hc : ((s[s.size - 2]'(by omega)).toNat : Int) = c) (r : Int) (hr : r = 0 + if 216 ≤ c ∧ c ≤ 219 then 2 else 0) :
    Calls Tryz.prog 176 #[.bool true, .string s] w fun e w' => e = .returned (.int .i64 r) ∧ w' = w := by
  unfold maxLen at hm
  have hc0 : 0 ≤ c := by omega
  have hc1 : c < 256 := by have := (s[s.size - 2]'(by omega)).toNat_lt; omega
  have hmod : (s.size : Int) % 2 = 0 := by omega
  have hx : s.toList.isEmpty = false := by rw [isEmpty_size]; exact decide_eq_false (by omega)
  have hi : (s.size : Int) - 2 = ((s.size - 2 : Nat) : Int) := by omega
  have hi1 : (s.size : Int) - 1 = ((s.size - 1 : Nat) : Int) := by omega
  by_cases h1 : 216 ≤ c
  · by_cases h2 : c ≤ 219
    · rw [if_pos ⟨h1, h2⟩] at hr
      subst hr
      go_enter Tryz.func176, Tryz.ntmps176
      go_wp2_with fail
      go_ret
      exact ⟨rfl, rfl⟩
    · rw [if_neg (by omega)] at hr
      subst hr
      go_enter Tryz.func176, Tryz.ntmps176
      go_wp2_with fail
      go_ret
      exact ⟨rfl, rfl⟩
  · rw [if_neg (by omega)] at hr
    subst hr
    go_enter Tryz.func176, Tryz.ntmps176
    go_wp2_with fail
    go_ret
    exact ⟨rfl, rfl⟩
set_option maxHeartbeats 800000 in
set_option maxRecDepth 100000 in
theorem units_lit0 (s : ByteArray) (w : World) (c : Int) (h : 2 ≤ s.size) (hm : s.size ≤ maxLen) (hev : s.size % 2 = 0) (hc : ((s[s.size - 1]'(by omega)).toNat : Int) = c) (r : Int) (hr : r = 0 + if 216 ≤ c ∧ c ≤ 219 then 2 else 0) :
    Calls Tryz.prog 176 #[.bool false, .string s] w fun e w' => e = .returned (.int .i64 r) ∧ w' = w := by
  unfold maxLen at hm
  have hc0 : 0 ≤ c := by omega
  have hc1 : c < 256 := by have := (s[s.size - 1]'(by omega)).toNat_lt; omega
  have hmod : (s.size : Int) % 2 = 0 := by omega
  have hx : s.toList.isEmpty = false := by rw [isEmpty_size]; exact decide_eq_false (by omega)
  have hi : (s.size : Int) - 2 = ((s.size - 2 : Nat) : Int) := by omega
  have hi1 : (s.size : Int) - 1 = ((s.size - 1 : Nat) : Int) := by omega
  by_cases h1 : 216 ≤ c
  · by_cases h2 : c ≤ 219
    · rw [if_pos ⟨h1, h2⟩] at hr
      subst hr
      go_enter Tryz.func176, Tryz.ntmps176
      go_wp2_with fail
      go_ret
      exact ⟨rfl, rfl⟩
    · rw [if_neg (by omega)] at hr
      subst hr
      go_enter Tryz.func176, Tryz.ntmps176
      go_wp2_with fail
      go_ret
      exact ⟨rfl, rfl⟩
  · rw [if_neg (by omega)] at hr
    subst hr
    go_enter Tryz.func176, Tryz.ntmps176
    go_wp2_with fail
    go_ret
    exact ⟨rfl, rfl⟩
set_option maxHeartbeats 800000 in
set_option maxRecDepth 100000 in
theorem units_big1 (s : ByteArray) (w : World) (c : Int) (h : 3 ≤ s.size) (hm : s.size ≤ maxLen) (hev : s.size % 2 = 1) (hc : ((s[s.size - 3]'(by omega)).toNat : Int) = c) (r : Int) (hr : r = 1 + if 216 ≤ c ∧ c ≤ 219 then 2 else 0) :
    Calls Tryz.prog 176 #[.bool true, .string s] w fun e w' => e = .returned (.int .i64 r) ∧ w' = w := by
  unfold maxLen at hm
  have hc0 : 0 ≤ c := by omega
  have hc1 : c < 256 := by have := (s[s.size - 3]'(by omega)).toNat_lt; omega
  have hmod : (s.size : Int) % 2 = 1 := by omega
  have hx : (s.extract 0 (s.size - 1)).toList.isEmpty = false := by rw [isEmpty_size]; simp; omega
  have hsz : (s.extract 0 (s.size - 1)).size = s.size - 1 := by simp
  have hi : (s.size : Int) - 1 = ((s.size - 1 : Nat) : Int) := by omega
  have hi1 : ((s.size - 1 : Nat) : Int) - 1 = ((s.size - 2 : Nat) : Int) := by omega
  have hi2 : ((s.size - 1 : Nat) : Int) - 2 = ((s.size - 3 : Nat) : Int) := by omega
  have hg : (((s.extract 0 (s.size - 1))[s.size - 3]'(by simp; omega)).toNat : Int) = c := by rw [← hc]; simp [ByteArray.getElem_extract]
  by_cases h1 : 216 ≤ c
  · by_cases h2 : c ≤ 219
    · rw [if_pos ⟨h1, h2⟩] at hr
      subst hr
      go_enter Tryz.func176, Tryz.ntmps176
      go_wp2_with fail
      go_ret
      exact ⟨rfl, rfl⟩
    · rw [if_neg (by omega)] at hr
      subst hr
      go_enter Tryz.func176, Tryz.ntmps176
      go_wp2_with fail
      go_ret
      exact ⟨rfl, rfl⟩
  · rw [if_neg (by omega)] at hr
    subst hr
    go_enter Tryz.func176, Tryz.ntmps176
    go_wp2_with fail
    go_ret
    exact ⟨rfl, rfl⟩
set_option maxHeartbeats 800000 in
set_option maxRecDepth 100000 in
theorem units_lit1 (s : ByteArray) (w : World) (c : Int) (h : 3 ≤ s.size) (hm : s.size ≤ maxLen) (hev : s.size % 2 = 1) (hc : ((s[s.size - 2]'(by omega)).toNat : Int) = c) (r : Int) (hr : r = 1 + if 216 ≤ c ∧ c ≤ 219 then 2 else 0) :
    Calls Tryz.prog 176 #[.bool false, .string s] w fun e w' => e = .returned (.int .i64 r) ∧ w' = w := by
  unfold maxLen at hm
  have hc0 : 0 ≤ c := by omega
  have hc1 : c < 256 := by have := (s[s.size - 2]'(by omega)).toNat_lt; omega
  have hmod : (s.size : Int) % 2 = 1 := by omega
  have hx : (s.extract 0 (s.size - 1)).toList.isEmpty = false := by rw [isEmpty_size]; simp; omega
  have hsz : (s.extract 0 (s.size - 1)).size = s.size - 1 := by simp
  have hi : (s.size : Int) - 1 = ((s.size - 1 : Nat) : Int) := by omega
  have hi1 : ((s.size - 1 : Nat) : Int) - 1 = ((s.size - 2 : Nat) : Int) := by omega
  have hi2 : ((s.size - 1 : Nat) : Int) - 2 = ((s.size - 3 : Nat) : Int) := by omega
  have hg : (((s.extract 0 (s.size - 1))[s.size - 2]'(by simp; omega)).toNat : Int) = c := by rw [← hc]; simp [ByteArray.getElem_extract]
  by_cases h1 : 216 ≤ c
  · by_cases h2 : c ≤ 219
    · rw [if_pos ⟨h1, h2⟩] at hr
      subst hr
      go_enter Tryz.func176, Tryz.ntmps176
      go_wp2_with fail
      go_ret
      exact ⟨rfl, rfl⟩
    · rw [if_neg (by omega)] at hr
      subst hr
      go_enter Tryz.func176, Tryz.ntmps176
      go_wp2_with fail
      go_ret
      exact ⟨rfl, rfl⟩
  · rw [if_neg (by omega)] at hr
    subst hr
    go_enter Tryz.func176, Tryz.ntmps176
    go_wp2_with fail
    go_ret
    exact ⟨rfl, rfl⟩
theorem units_any (big : Bool) (s : ByteArray) (w : World) (hm : s.size ≤ maxLen) : Calls Tryz.prog 176 #[.bool big, .string s] w fun e w' => e = .returned (.int .i64 (M.wu big (bl s) : Nat)) ∧ w' = w := by
  by_cases h : s.size < 2
  · exact units_few big s w h
  · by_cases hev : s.size % 2 = 0
    · have e := wu_at big s s.size 0 (by omega) (by omega) rfl hev
      cases big
      · refine units_lit0 s w _ (by omega) hm hev rfl _ ?_
        rw [e]; simp only [Bool.false_eq_true, if_false]; split <;> simp
      · refine units_big0 s w _ (by omega) hm hev rfl _ ?_
        rw [e]; simp only [if_true]; split <;> simp
    · have e := wu_at big s (s.size - 1) 1 (by omega) (by omega) (by omega) (by omega)
      cases big
      · refine units_lit1 s w _ (by omega) hm (by omega) rfl _ ?_
        rw [e]
        simp only [Bool.false_eq_true, if_false, show s.size - 1 - 1 = s.size - 2 from by omega]; split <;> simp
      · refine units_big1 s w _ (by omega) hm (by omega) rfl _ ?_
        rw [e]
        simp only [if_true, show s.size - 1 - 2 = s.size - 3 from by omega]; split <;> simp
set_option maxHeartbeats 800000 in
set_option maxRecDepth 100000 in
theorem stop_any (s : ByteArray) (w : World) : Calls Tryz.prog 94 #[.string s] w fun e w' => ∃ v, e = .returned v ∧ w'.ownsRow w.heap.size 3 1 v (if s.size = 0 then [] else [(65533 : Int)]).length ((if s.size = 0 then [] else [(65533 : Int)]).map (Value.int .i64)) ∧ Below w.heap.size w w' := by
  have HE := hide (isEmpty_size s)
  by_cases h : s.size = 0
  · have he : s.toList.isEmpty = true := by rw [unhide HE]; simpa using h
    have hs : s = ⟨#[]⟩ := by
      apply ByteArray.ext; apply Array.ext'
      exact List.eq_nil_of_length_eq_zero (by simpa using h)
    subst hs
    go_enter Tryz.func94, Tryz.ntmps94
    go_wp2_with fail
    go_ret
    exact ⟨_, rfl, World.ownsRow_nil _ _ _ _, Below.refl _ _⟩
  · have he : s.toList.isEmpty = false := by rw [unhide HE]; simpa using h
    rw [if_neg h]
    go_enter Tryz.func94, Tryz.ntmps94
    go_wp2_with fail
    go_ret
    exact ⟨_, rfl, owns_one w 65533, balloc _ _⟩
end Go.Proofs.YtaiinjfnkmidbaaGreatDoor

namespace Go.Proofs.YtaiinjfnkmidbaaGreatDoor
open Go.RowKit
set_option linter.unusedVariables false


theorem ret_start {a b c d a' b' c' d' : Int} (h1 : a = a') (h2 : b = b') (h3 : c = c') (h4 : d = d') :
    Ending.returned (.agg #[.int .i64 a, .int .i64 b, .int .u8 c, .int .u8 d]) = .returned (.agg #[.int .i64 a', .int .i64 b', .int .u8 c', .int .u8 d']) := by
  rw [h1, h2, h3, h4]

set_option maxHeartbeats 1000000 in
theorem begin_any (c : Int) (h0 : 0 ≤ c) (h1 : c ≤ 255) (w : World) :
    Calls Tryz.prog 222 #[.int .u8 c] w fun e w' => e = .returned (.agg #[.int .i64 (M.bSize c), .int .i64 (M.bBits c), .int .u8 (M.bLow c), .int .u8 (M.bHigh c)]) ∧ Below w.heap.size w w' := by
  rcases (show (c < 128) ∨ (128 ≤ c ∧ c < 194) ∨ (194 ≤ c ∧ c < 224) ∨ c = 224 ∨ c = 237 ∨ (224 < c ∧ c < 237) ∨ (237 < c ∧ c < 240) ∨ c = 240 ∨ (240 < c ∧ c < 244) ∨ c = 244 ∨ 244 < c from by omega) with h | ⟨h, h'⟩ | ⟨h, h'⟩ | h | h | ⟨h, h'⟩ | ⟨h, h'⟩ | h | ⟨h, h'⟩ | h | h
  all_goals (try subst h)
  all_goals
    go_enter Tryz.func222, Tryz.ntmps222
    go_wp2
    refine bodyPost_ret (by simp [results, Tryz.results222, go_sem]; exact ⟨rfl, rfl, rfl, rfl⟩) rfl ⟨ret_start ?_ ?_ ?_ ?_, (Below.refl _ _).alloc (Nat.le_refl _) _⟩
  all_goals simp only [M.bSize, M.bBits, M.bLow, M.bHigh]
  all_goals (repeat (first | rfl | omega | (rw [if_pos (by omega)]) | (rw [if_neg (by omega)])))


theorem nxt_zero (s : ByteArray) (h : 0 < s.size) (hz : M.bSize s[0].toNat = 0) : M.nxt (bl s) = (65533, 1, false) := by
  rw [bl_0 s h]; simp [M.nxt, hz]
theorem nxt_start (s : ByteArray) (h : 0 < s.size) (hz : ¬ M.bSize s[0].toNat = 0) :
    M.go (M.bSize s[0].toNat - 1).toNat 1 (M.bBits s[0].toNat) (M.bLow s[0].toNat) (M.bHigh s[0].toNat) ((bl s).drop 1) = M.nxt (bl s) := by
  conv => rhs; rw [bl_0 s h]
  simp [M.nxt, hz]
theorem go_step {s : ByteArray} {k : Nat} (hk : k < s.size) {sz P L H : Int} (h : (k : Int) < sz) (h1 : L ≤ s[k].toNat) (h2 : (s[k].toNat : Int) ≤ H) {r : Int × Int × Bool}
    (hg : M.go (sz - k).toNat k P L H ((bl s).drop k) = r) : M.go (sz - ((k + 1 : Nat) : Int)).toNat ((k + 1 : Nat) : Int) (P * 64 + s[k].toNat % 64) 128 191 ((bl s).drop (k + 1)) = r := by
  rw [← hg, bl_drop s k hk]
  obtain ⟨m, hm⟩ : ∃ m : Nat, (sz - k).toNat = m + 1 := ⟨(sz - k).toNat - 1, by omega⟩
  rw [hm, show (sz - ((k + 1 : Nat) : Int)).toNat = m from by omega]
  simp only [M.go]
  rw [if_neg (by omega)]
  simp
theorem go_bad {s : ByteArray} {k : Nat} (hk : k < s.size) {sz P L H : Int} (h : (k : Int) < sz) (h1 : (s[k].toNat : Int) < L ∨ H < (s[k].toNat : Int)) {r : Int × Int × Bool}
    (hg : M.go (sz - k).toNat k P L H ((bl s).drop k) = r) : r = (65533, (k : Int), false) := by
  rw [← hg, bl_drop s k hk]
  obtain ⟨m, hm⟩ : ∃ m : Nat, (sz - k).toNat = m + 1 := ⟨(sz - k).toNat - 1, by omega⟩
  rw [hm]; simp only [M.go]; rw [if_pos h1]
theorem go_end {s : ByteArray} {k : Nat} (hk : k = s.size) {sz P L H : Int} (h : (k : Int) < sz) {r : Int × Int × Bool}
    (hg : M.go (sz - k).toNat k P L H ((bl s).drop k) = r) : r = (65533, (k : Int), true) := by
  rw [← hg, List.drop_of_length_le (by rw [bl_len]; omega)]
  obtain ⟨m, hm⟩ : ∃ m : Nat, (sz - k).toNat = m + 1 := ⟨(sz - k).toNat - 1, by omega⟩
  rw [hm]; simp only [M.go]
theorem go_done {s : ByteArray} {k : Nat} {sz P L H : Int} (h : (k : Int) = sz) {r : Int × Int × Bool}
    (hg : M.go (sz - k).toNat k P L H ((bl s).drop k) = r) : r = (P, sz, false) := by
  rw [← hg, show (sz - k).toNat = 0 from by omega]; simp only [M.go]; rw [h]

theorem or64 (P c : Int) (h1 : 0 ≤ P) (h2 : P < 1125899906842624) (h3 : 0 ≤ c) : bits .or .i64 (P * 64) (c % 64) = P * 64 + c % 64 :=
  bits_join .i64 62 (by decide) (fun n h h' => by rw [IntKind.wrap_i64]; omega) 6 (P * 64) (c % 64) (by omega) (by omega) (by omega) (by omega) (by omega) (by omega)
theorem b_next {w w1 : World} {o o' : Obj} {nq : Nat} (x y z : Value) (hb : Below (w.alloc o).heap.size (w.alloc o) w1) :
    Below w.heap.size w (((((w1.alloc o').drewN nq).setCell ⟨w.heap.size, 0, none⟩ x).setCell ⟨w.heap.size, 1, none⟩ y).setCell ⟨w.heap.size, 2, none⟩ z) := by
  have h1 := ((Below.refl w.heap.size w).alloc (Nat.le_refl _) o).trans (hb.mono (by simp))
  exact (((below_drewN (h1.alloc h1.size o') nq).setCell (Nat.le_refl _) x).setCell (Nat.le_refl _) y).setCell (Nat.le_refl _) z

theorem b_next' {w w1 : World} {o o' : Obj} (x y z : Value) (hb : Below (w.alloc o).heap.size (w.alloc o) w1) :
    Below w.heap.size w ((((w1.setCell ⟨w.heap.size, 0, none⟩ x).setCell ⟨w.heap.size, 1, none⟩ y).setCell ⟨w.heap.size, 2, none⟩ z).alloc o') := by
  have h1 := ((Below.refl w.heap.size w).alloc (Nat.le_refl _) o).trans (hb.mono (by simp))
  have h2 := ((h1.setCell (p := ⟨w.heap.size, 0, none⟩) (Nat.le_refl _) x).setCell (p := ⟨w.heap.size, 1, none⟩) (Nat.le_refl _) y).setCell (p := ⟨w.heap.size, 2, none⟩) (Nat.le_refl _) z
  exact h2.alloc h2.size o'

/-- What a loop's round of next knows. -/
def InN8 (s : ByteArray) (sz : Int) (k : Nat) (P L H : Int) : Prop := M.go (sz - k).toNat k P L H ((bl s).drop k) = M.nxt (bl s)

set_option maxHeartbeats 400000 in
set_option maxRecDepth 100000 in
theorem next_none (s : ByteArray) (w : World) (h0 : 0 < s.size) (hs : s.size ≤ 3000) (hz0 : M.bSize s[0].toNat = 0) :
    Calls Tryz.prog 196 #[.string s] w fun e w' => e = .returned (.agg #[.int .i64 (M.nxt (bl s)).1, .int .i64 (M.nxt (bl s)).2.1, .bool (M.nxt (bl s)).2.2]) ∧ Below w.heap.size w w' := by
  have hc : (s[0].toNat : Int) < 256 := by have := s[0].toNat_lt; omega
  have HR := hide (nxt_zero s h0 hz0)
  have hsz : (M.bSize s[0].toNat == 0) = true := by simp [hz0]
  clear hz0
  go_enter Tryz.func196, Tryz.ntmps196
  go_wp2_with fail
  refine (begin_any _ (by omega) (by omega) _).mono ?_
  rintro e w1 ⟨rfl, hb⟩
  obtain ⟨hcl, hfz⟩ := bcell hb
  have hz : w.heap.size + 1 ≤ w1.heap.size := by have := hb.size; simp at this; omega
  have c0 : w1.cell? ⟨w.heap.size, 0, none⟩ = some (.int .i64 0) := by rw [hcl _ _ (by simp)]; simp
  have c1 : w1.cell? ⟨w.heap.size, 1, none⟩ = some (.int .i64 0) := by rw [hcl _ _ (by simp)]; simp
  have c2 : w1.cell? ⟨w.heap.size, 2, none⟩ = some (.bool false) := by rw [hcl _ _ (by simp)]; simp
  have f0 : w1.frozen? ⟨w.heap.size, 0, none⟩ = false := by rw [hfz _ _ (by simp)]; simp
  have f1 : w1.frozen? ⟨w.heap.size, 1, none⟩ = false := by rw [hfz _ _ (by simp)]; simp
  have f2 : w1.frozen? ⟨w.heap.size, 2, none⟩ = false := by rw [hfz _ _ (by simp)]; simp
  have hzz : w.heap.size < w1.heap.size := by omega
  clear hcl hfz
  clear hc
  go_wp2
  refine bodyPost_ret (v := .agg #[.int .i64 65533, .int .i64 1, .bool false]) (by simp [results, Tryz.results196, go_sem, c0, c1, c2, hzz]) rfl ⟨?_, ?_⟩
  · rw [unhide HR]
  · exact b_next' _ _ _ hb

set_option maxHeartbeats 400000 in
set_option maxRecDepth 100000 in
theorem next_any8 (s : ByteArray) (w : World) (h0 : 0 < s.size) (hs : s.size ≤ 3000) :
    Calls Tryz.prog 196 #[.string s] w fun e w' => e = .returned (.agg #[.int .i64 (M.nxt (bl s)).1, .int .i64 (M.nxt (bl s)).2.1, .bool (M.nxt (bl s)).2.2]) ∧ Below w.heap.size w w' := by
  have hc : (s[0].toNat : Int) < 256 := by have := s[0].toNat_lt; omega
  by_cases hz0 : M.bSize s[0].toNat = 0
  · exact next_none s w h0 hs hz0
  have hbd := M.bSize_bd s[0].toNat
  have HS : InN8 s (M.bSize s[0].toNat) 1 (M.bBits s[0].toNat) (M.bLow s[0].toNat) (M.bHigh s[0].toNat) := nxt_start s h0 hz0
  have hbits : 0 ≤ M.bBits s[0].toNat ∧ M.bBits s[0].toNat < 128 := by unfold M.bBits; omega
  go_enter Tryz.func196, Tryz.ntmps196
  go_wp2_with fail
  refine (begin_any _ (by omega) (by omega) _).mono ?_
  rintro e w1 ⟨rfl, hb⟩
  obtain ⟨hcl, hfz⟩ := bcell hb
  have hz : w.heap.size + 1 ≤ w1.heap.size := by have := hb.size; simp at this; omega
  have c0 : w1.cell? ⟨w.heap.size, 0, none⟩ = some (.int .i64 0) := by rw [hcl _ _ (by simp)]; simp
  have c1 : w1.cell? ⟨w.heap.size, 1, none⟩ = some (.int .i64 0) := by rw [hcl _ _ (by simp)]; simp
  have c2 : w1.cell? ⟨w.heap.size, 2, none⟩ = some (.bool false) := by rw [hcl _ _ (by simp)]; simp
  have f0 : w1.frozen? ⟨w.heap.size, 0, none⟩ = false := by rw [hfz _ _ (by simp)]; simp
  have f1 : w1.frozen? ⟨w.heap.size, 1, none⟩ = false := by rw [hfz _ _ (by simp)]; simp
  have f2 : w1.frozen? ⟨w.heap.size, 2, none⟩ = false := by rw [hfz _ _ (by simp)]; simp
  have hzz : w.heap.size < w1.heap.size := by omega
  clear hcl hfz
  clear hc
  generalize M.bSize s[0].toNat = sz at *
  generalize M.bBits s[0].toNat = bits at *
  generalize M.bLow s[0].toNat = low at *
  generalize M.bHigh s[0].toNat = high at *
  have hsz : (sz == 0) = false := by simp; omega
  have hsz' : 1 ≤ sz := by omega
  go_wp2_with fail
  go_quiet (fail)
  go_wp2_with fail
  clear hsz hz0 
  go_loop [4, 5, 6, 7] (fun p lo hi i => ∃ (k : Nat) (P L H : Int), 1 ≤ k ∧ (k : Int) ≤ sz ∧ k ≤ s.size ∧ i = .int .i64 k ∧ p = .int .i64 P ∧ lo = .int .u8 L ∧ hi = .int .u8 H ∧ 0 ≤ P ∧ ((k = 1 ∧ P < 128) ∨ (k = 2 ∧ P < 8192) ∨ (k = 3 ∧ P < 524288) ∨ (k = 4 ∧ P < 33554432)) ∧ InN8 s sz k P L H) (fun _ _ _ i => 5 - (intOf i).toNat)
  case atStart => exact ⟨1, bits, low, high, by omega, by omega, by omega, rfl, rfl, rfl, rfl, by omega, by omega, HS⟩
  case round =>
    obtain ⟨k, P, L, H, hk1, hk2, hk3, rfl, rfl, rfl, rfl, hP, hP2, HN⟩ := hrel
    clear HS
    by_cases hlt : (k : Int) < sz
    · by_cases he : k = s.size
      · have he' : ((k : Int) == (s.size : Int)) = true := by simp [he]
        have HR : M.nxt (bl s) = (65533, (k : Int), true) := go_end he hlt HN
        have HR' := hide HR
        clear HR
        go_wp2
        refine bodyPost_ret (v := .agg #[.int .i64 65533, .int .i64 (s.size : Int), .bool true]) (by simp [results, Tryz.results196, go_sem, c0, c1, c2, hzz]) rfl ⟨?_, ?_⟩
        · rw [unhide HR', he]
        · exact b_next _ _ _ hb
      · have he' : ((k : Int) == (s.size : Int)) = false := by simp; omega
        have hks : k < s.size := by omega
        have hby : (s[k].toNat : Int) < 256 := by have := s[k].toNat_lt; omega
        by_cases hl : (s[k].toNat : Int) < L ∨ H < (s[k].toNat : Int)
        · have HR := hide (go_bad hks hlt hl HN)
          rcases hl with hl | hl
          · go_wp2
            refine bodyPost_ret (v := .agg #[.int .i64 65533, .int .i64 (k : Int), .bool false]) (by simp [results, Tryz.results196, go_sem, c0, c1, c2, hzz]) rfl ⟨?_, ?_⟩
            · rw [unhide HR]
            · exact b_next _ _ _ hb
          · by_cases hl3 : (s[k].toNat : Int) < L
            all_goals
              go_wp2
              refine bodyPost_ret (v := .agg #[.int .i64 65533, .int .i64 (k : Int), .bool false]) (by simp [results, Tryz.results196, go_sem, c0, c1, c2, hzz]) rfl ⟨?_, ?_⟩
              · rw [unhide HR]
              · exact b_next _ _ _ hb
        · have hl1 : ¬ (s[k].toNat : Int) < L := by omega
          have hl2 : ¬ H < (s[k].toNat : Int) := by omega
          have hPs : P < 524288 := by omega
          clear hl
          have HO := or64 P (s[k].toNat) hP (by omega) (by omega)
          have HN' : InN8 s sz (k + 1) (P * 64 + s[k].toNat % 64) 128 191 := go_step hks hlt (by omega) (by omega) HN
          go_wp2
          go_round
          case rel => exact ⟨k + 1, P * 64 + s[k].toNat % 64, 128, 191, by omega, by omega, by omega, by go_num, rfl, rfl, rfl, by omega, by omega, HN'⟩
          case measure => simp [intOf]; omega
    · have HR := hide (go_done (by omega) HN)
      go_wp2
      refine bodyPost_ret (v := .agg #[.int .i64 P, .int .i64 sz, .bool false]) (by simp [results, Tryz.results196, go_sem, c0, c1, c2, hzz]) rfl ⟨?_, ?_⟩
      · rw [unhide HR]
      · exact b_next _ _ _ hb


set_option maxHeartbeats 400000 in
set_option maxRecDepth 100000 in
theorem push8_any (B base : Nat) (pt sz : Int) (op : Bool) (v : Value) (xs : List Int) (w : World) (hB : B < base) (hbase : base ≤ w.heap.size)
    (hv : w.heap[B]? = some (.cells #[v] 31 (0, 0))) (hown : w.ownsRow base 3 1 v xs.length (xs.map (Value.int .i64))) (hn : xs.length ≤ 3000) :
    Calls Tryz.prog 150 #[.agg #[.int .i64 pt, .int .i64 sz, .bool op], .pointer (some ⟨B, 0, none⟩)] w fun e w' => e = .returned (.tuple #[]) ∧
      ∃ v', w'.heap[B]? = some (.cells #[v'] 31 (0, 0)) ∧ w'.ownsRow base 3 1 v' (xs ++ [pt]).length ((xs ++ [pt]).map (Value.int .i64)) ∧ Below B w w' ∧ (∀ b, b < w.heap.size → b ≠ B → some b ≠ v.ownBlock → w'.heap[b]? = w.heap[b]?) := by
  have hc := cell_of_one hv
  have hf := free_of_one hv
  obtain ⟨i0, hi, hz0, hz1, hz2⟩ := info_parts info3
  have hlt : B < w.heap.size := by omega
  have HV := hide hv
  clear hv
  go_enter Tryz.func150, Tryz.ntmps150
  go_wp2_with (at_builtin; refine wpList_append_own _ rfl (.tmp 3) (.tmp 6) 31 rfl base 3 i0 (.int .i64 0) 1 8 Tryz.underlying31 hi hz0 hz1 hz2 rfl (by decide) _ _ _ rfl ((hown.alloc _).alloc _) ⟨w.heap.size + 1, 0, none⟩ 1 1 [.int .i64 pt] rfl rfl ?c1 ?c2 ?c3 ?c4 ?c5 ?_)
  case c1 =>
    intro j u hj
    match j, hj with
    | 0, hj => simp at hj; subst hj; simp [Addr.add]
  case c2 => intro u hu; simp at hu; subst hu; rfl
  case c3 => unfold maxLen; omega
  case c4 => omega
  case c5 => simp; omega
  intro v' w1 hown' hgrow _
  obtain ⟨ao', cap', rfl⟩ := owns_shape hown'
  have hne : some B ≠ v.ownBlock := fun e => by have := hown.lt B e.symm; omega
  have hv1 : w1.heap[B]? = some (.cells #[v] 31 (0, 0)) := by
    rw [hgrow.block B (by simp; omega) hne, Below.heap_alloc _ _ _ (by simp; omega), Below.heap_alloc _ _ _ hlt]
    exact unhide HV
  have hc1 := cell_of_one hv1
  have hf1 := free_of_one hv1
  have R1 := hide (one_setCell (u := .slice ao' (xs.length + 1) cap') hv1)
  have R2 := hide (ownsRow_setCell_below hown' (a := ⟨B, 0, none⟩) hB (.slice ao' (xs.length + 1) cap'))
  have R3 : Below B w (w1.setCell ⟨B, 0, none⟩ (.slice ao' (xs.length + 1) cap')) := by
    have h1 := (((Below.refl B w).alloc (by omega) (.cells #[.int .i64 pt, .int .i64 sz, .bool op] 161)).alloc (by simp; omega) (.cells #[.int .i64 pt] 3)).grown hgrow (by simp; omega) (fun k hk => by have := hown.lt k hk; omega)
    exact h1.setCell (Nat.le_refl _) _
  have R4 := hide (fun b (h1 : b < w.heap.size) (h2 : b ≠ B) (h3 : some b ≠ v.ownBlock) => show (w1.setCell ⟨B, 0, none⟩ (.slice ao' (xs.length + 1) cap')).heap[b]? = w.heap[b]? from by
    rw [Below.heap_setCell _ _ _ _ h2, hgrow.block b (by simp; omega) h3, Below.heap_alloc _ _ _ (by simp; omega), Below.heap_alloc _ _ _ h1])
  clear hc hf hv1 HV hown hown' hgrow
  go_wp2_with fail
  go_end0
  exact ⟨rfl, _, unhide R1, by simpa using unhide R2, R3, unhide R4⟩

/-- What a round of walk knows, the closure gathering code points in block B. -/
def InW8 (s : ByteArray) (B : Nat) (w wr : World) (k : Nat) (xs : List Int) (v : Value) : Prop :=
  wr.heap[B]? = some (.cells #[v] 31 (0, 0)) ∧ wr.ownsRow (B + 1) 3 1 v xs.length (xs.map (Value.int .i64)) ∧ Below B w wr ∧ B + 1 ≤ wr.heap.size ∧ xs.length ≤ k ∧ xs ++ M.dec ((bl s).drop k) = M.dec (bl s)

set_option maxHeartbeats 400000 in
set_option maxRecDepth 100000 in
theorem walk_dec (s : ByteArray) (B : Nat) (w : World) (hs : s.size ≤ 3000) (hv : w.heap[B]? = some (.cells #[.slice none 0 0] 31 (0, 0))) :
    Calls Tryz.prog 149 #[.string s, .func (Fn.func 150) #[] #[.pointer (some ⟨B, 0, none⟩)]] w fun e w' => e = .returned (.tuple #[]) ∧
      ∃ v', w'.heap[B]? = some (.cells #[v'] 31 (0, 0)) ∧ w'.ownsRow (B + 1) 3 1 v' (M.dec (bl s)).length ((M.dec (bl s)).map (Value.int .i64)) ∧ Below B w w' := by
  have hlt := lt_of_block hv
  have HI : InW8 s B w w 0 [] (.slice none 0 0) := ⟨hv, World.ownsRow_nil _ _ _ _, Below.refl _ _, by omega, Nat.le_refl _, by simp⟩
  clear hv
  go_enter Tryz.func149, Tryz.ntmps149
  go_wp2_with fail
  go_loopw [4] (fun i wr => ∃ (k : Nat) (xs : List Int) (v : Value), k ≤ s.size ∧ i = .int .i64 k ∧ InW8 s B w wr k xs v) (fun i _ => s.size - (intOf i).toNat)
  case atStart => exact ⟨0, [], _, by omega, rfl, HI⟩
  case round =>
    obtain ⟨k, xs, v, hk, rfl, hI⟩ := hrel
    clear HI
    by_cases hks : k < s.size
    · obtain ⟨hv, hown, hbel, hsz, hlen, heq⟩ := hI
      have HV := hide hv
      have HE := hide heq
      have HS := M.nxt_size' ((bl s).drop k) (by simp [bl_len]; omega)
      clear hv heq
      go_wp2_with fail
      refine (next_any8 (s.extract k s.size) _ (by simp; omega) (by simp; omega)).mono ?_
      rintro e w1 ⟨rfl, hb1⟩
      rw [bl_extract]
      obtain ⟨pt, sz, op, HN⟩ : ∃ pt sz op, Hid (M.nxt ((bl s).drop k) = (pt, sz, op)) := ⟨_, _, _, rfl⟩
      have hnn := hide (show (bl s).drop k ≠ [] from fun e => by have := congrArg List.length e; simp [bl_len] at this; omega)
      rw [unhide HN] at HS ⊢
      simp only [List.length_drop, bl_len] at HS
      go_wp2_with fail
      have hw1 := hb1.size
      have hv1 : w1.heap[B]? = some (.cells #[v] 31 (0, 0)) := (hb1.block B (by omega)).trans (unhide HV)
      have hown1 := owns_below hown hb1
      refine (push8_any B (B + 1) pt sz op v xs _ (by omega) (by simp; omega) (by rw [Below.heap_alloc _ _ _ (by omega)]; exact hv1) (hown1.alloc _) (by omega)).mono ?_
      rintro e w2 ⟨rfl, v2, hv2, hown2, hbel2, hkeep⟩
      have hp : w2.heap[w1.heap.size]? = some (.cells #[.int .i64 pt, .int .i64 sz, .bool op] 161) := by
        rw [hkeep w1.heap.size (by simp) (by omega) (fun e => by have := hown.lt _ e.symm; omega)]
        exact heap_alloc_new _ _
      have hcp : w2.cell? ⟨w1.heap.size, 1, none⟩ = some (.int .i64 sz) := by simp [World.cell?, hp]
      have hz2 := hbel2.size
      simp at hz2
      have HI : InW8 s B w w2 (k + sz.toNat) (xs ++ [pt]) v2 := by
        refine ⟨hv2, hown2, ?_, by omega, by simp; omega, ?_⟩
        · exact (hbel.trans (hb1.mono (by omega))).trans (((Below.refl _ _).alloc (by omega) _).trans hbel2)
        · rw [← unhide HE, List.append_assoc]
          congr 1
          rw [← List.drop_drop]
          exact (M.dec_step _ HN hnn).symm
      clear hp hkeep hown1 hv1 hown2 hv2 hbel2
      go_wp2_with fail
      go_roundw
      case rel => exact ⟨k + sz.toNat, xs ++ [pt], v2, by omega, by go_num, HI⟩
      case measure => simp [intOf]; omega
    · go_wp2_with fail
      go_end0
      obtain ⟨h1, h2, h3, h4, h5, h6⟩ := hI
      rw [List.drop_of_length_le (by rw [bl_len]; omega)] at h6
      have e : xs = M.dec (bl s) := by rw [← h6]; simp [M.dec, M.pieces_nil]
      subst e
      exact ⟨rfl, v, h1, h2, h3⟩


set_option maxHeartbeats 400000 in
set_option maxRecDepth 100000 in
theorem dec1_any (s : ByteArray) (w : World) (hs : s.size ≤ 3000) :
    Calls Tryz.prog 148 #[.string s] w fun e w' => ∃ v, e = .returned v ∧ Ints w' v (M.dec (bl s)) ∧ Below w.heap.size w w' := by
  go_enter Tryz.func148, Tryz.ntmps148
  go_wp2_with fail
  refine (walk_dec s w.heap.size _ hs (heap_alloc_new _ _)).mono ?_
  rintro e w1 ⟨rfl, v', hv, hown, hbel⟩
  have hI := Ints.of_owns hown
  have hc := cell_of_one hv
  obtain ⟨ao, cap, hsh⟩ := owns_shape hown
  subst hsh
  have hb := hide (((Below.refl w.heap.size w).alloc (Nat.le_refl _) (.cells #[.slice none 0 0] 31)).trans hbel)
  clear hv hown hbel
  go_wp2_with fail
  go_ret
  exact ⟨_, rfl, hI, unhide hb⟩

set_option maxHeartbeats 400000 in
set_option maxRecDepth 100000 in
theorem decode_any (s : ByteArray) (w : World) (hs : s.size ≤ 3000) :
    Calls Tryz.prog 89 #[.string s] w fun e w' => ∃ v, e = .returned (.tuple #[v, .int .i64 0]) ∧ Ints w' v (M.dec (bl s)) ∧ Below w.heap.size w w' := by
  go_enter Tryz.func89, Tryz.ntmps89
  go_wp2_with (first | (go_at_call 148; refine (dec1_any _ _ hs).mono ?_; rintro e w1 ⟨v, rfl, hI, hb⟩; have HI := hide hI; have HB := hide hb; obtain ⟨ao, cap, rfl, _⟩ := hI; clear hb) | go_in)
  go_ret2
  exact ⟨_, rfl, unhide HI, unhide HB⟩

set_option maxHeartbeats 400000 in
set_option maxRecDepth 100000 in
theorem decode_long (s : ByteArray) (w : World) (hs : 3000 < s.size) (hm : s.size ≤ maxLen) :
    Calls Tryz.prog 89 #[.string s] w fun e w' => e = .returned (.tuple #[.slice none 0 0, .int .i64 2]) ∧ w' = w := by
  unfold maxLen at hm
  go_enter Tryz.func89, Tryz.ntmps89
  go_wp2
  go_ret2
  exact ⟨rfl, rfl⟩


namespace M
def pick (a : Int) (p : Int × Int × Bool) : Int := if p.2.2 then p.2.1 else a
theorem lft_step {pt sz : Int} {op : Bool} (n : Int) (l : List Int) (h : nxt l = (pt, sz, op)) (hn : l ≠ []) :
    (pieces l).foldl pick n = (pieces (l.drop sz.toNat)).foldl pick (if op then sz else n) := by
  rw [pieces_ne hn, h]
  rfl
theorem spl_eq (l : List Int) : spl l = (pieces l).foldl pick 0 := rfl
end M

set_option maxHeartbeats 400000 in
set_option maxRecDepth 100000 in
theorem set_any (B : Nat) (pt sz n : Int) (op : Bool) (w : World) (hv : w.heap[B]? = some (.cells #[.int .i64 n] 3 (0, 0))) :
    Calls Tryz.prog 212 #[.agg #[.int .i64 pt, .int .i64 sz, .bool op], .pointer (some ⟨B, 0, none⟩)] w fun e w' => e = .returned (.tuple #[]) ∧
      w'.heap[B]? = some (.cells #[.int .i64 (if op then sz else n)] 3 (0, 0)) ∧ Below B w w' ∧ (∀ b, b < w.heap.size → b ≠ B → w'.heap[b]? = w.heap[b]?) := by
  have hc := cell_of_one hv
  have hf := free_of_one hv
  have hlt := lt_of_block hv
  have HV := hide hv
  have hv1 : (w.alloc (.cells #[.int .i64 pt, .int .i64 sz, .bool op] 161)).heap[B]? = some (.cells #[.int .i64 n] 3 (0, 0)) := by rw [Below.heap_alloc _ _ _ hlt]; exact hv
  have HA := hide hv1
  clear hv hv1
  cases op
  · go_enter Tryz.func212, Tryz.ntmps212
    go_wp2
    go_end0
    exact ⟨rfl, unhide HA, (Below.refl _ _).alloc (by omega) _, fun b h1 h2 => Below.heap_alloc _ _ _ h1⟩
  · go_enter Tryz.func212, Tryz.ntmps212
    go_wp2
    go_end0
    have hz : (w.setCell ⟨B, 0, none⟩ (.int .i64 sz)).heap.size = w.heap.size := by simp [World.setCell]
    exact ⟨rfl, (Below.heap_alloc _ _ _ (by omega)).trans (one_setCell (unhide HV)), ((Below.refl B w).setCell (p := ⟨B, 0, none⟩) (Nat.le_refl _) (.int .i64 sz)).alloc (by omega) _, fun b h1 h2 => (Below.heap_alloc _ _ _ (by omega)).trans (Below.heap_setCell _ _ _ _ h2)⟩

/-- What a round of walk knows, the closure keeping a number in block B. -/
def InS8 (s : ByteArray) (B : Nat) (w wr : World) (k : Nat) (n : Int) : Prop :=
  wr.heap[B]? = some (.cells #[.int .i64 n] 3 (0, 0)) ∧ Below B w wr ∧ B + 1 ≤ wr.heap.size ∧ (M.pieces ((bl s).drop k)).foldl M.pick n = M.spl (bl s)

set_option maxHeartbeats 400000 in
set_option maxRecDepth 100000 in
theorem walk_spl (s : ByteArray) (B : Nat) (w : World) (hs : s.size ≤ 3000) (hv : w.heap[B]? = some (.cells #[.int .i64 0] 3 (0, 0))) :
    Calls Tryz.prog 149 #[.string s, .func (Fn.func 212) #[] #[.pointer (some ⟨B, 0, none⟩)]] w fun e w' => e = .returned (.tuple #[]) ∧
      w'.heap[B]? = some (.cells #[.int .i64 (M.spl (bl s))] 3 (0, 0)) ∧ Below B w w' := by
  have hlt := lt_of_block hv
  have HI : InS8 s B w w 0 0 := ⟨hv, Below.refl _ _, by omega, by simp [M.spl_eq]⟩
  clear hv
  go_enter Tryz.func149, Tryz.ntmps149
  go_wp2_with fail
  go_loopw [4] (fun i wr => ∃ (k : Nat) (n : Int), k ≤ s.size ∧ i = .int .i64 k ∧ InS8 s B w wr k n) (fun i _ => s.size - (intOf i).toNat)
  case atStart => exact ⟨0, _, by omega, rfl, HI⟩
  case round =>
    obtain ⟨k, n, hk, rfl, hI⟩ := hrel
    clear HI
    by_cases hks : k < s.size
    · obtain ⟨hv, hbel, hsz, heq⟩ := hI
      have HV := hide hv
      have HE := hide heq
      have HS := M.nxt_size' ((bl s).drop k) (by simp [bl_len]; omega)
      clear hv heq
      go_wp2_with fail
      refine (next_any8 (s.extract k s.size) _ (by simp; omega) (by simp; omega)).mono ?_
      rintro e w1 ⟨rfl, hb1⟩
      rw [bl_extract]
      obtain ⟨pt, sz, op, HN⟩ : ∃ pt sz op, Hid (M.nxt ((bl s).drop k) = (pt, sz, op)) := ⟨_, _, _, rfl⟩
      have hnn := hide (show (bl s).drop k ≠ [] from fun e => by have := congrArg List.length e; simp [bl_len] at this; omega)
      rw [unhide HN] at HS ⊢
      simp only [List.length_drop, bl_len] at HS
      go_wp2_with fail
      have hw1 := hb1.size
      have hv1 : w1.heap[B]? = some (.cells #[.int .i64 n] 3 (0, 0)) := (hb1.block B (by omega)).trans (unhide HV)
      refine (set_any B pt sz n op _ (by rw [Below.heap_alloc _ _ _ (by omega)]; exact hv1)).mono ?_
      rintro e w2 ⟨rfl, hv2, hbel2, hkeep⟩
      have hp : w2.heap[w1.heap.size]? = some (.cells #[.int .i64 pt, .int .i64 sz, .bool op] 161) := by
        rw [hkeep w1.heap.size (by simp) (by omega)]
        exact heap_alloc_new _ _
      have hcp : w2.cell? ⟨w1.heap.size, 1, none⟩ = some (.int .i64 sz) := by simp [World.cell?, hp]
      have hz2 := hbel2.size
      simp at hz2
      have HI : InS8 s B w w2 (k + sz.toNat) (if op then sz else n) := by
        refine ⟨hv2, ?_, by omega, ?_⟩
        · exact (hbel.trans (hb1.mono (by omega))).trans (((Below.refl _ _).alloc (by omega) _).trans hbel2)
        · rw [← unhide HE, ← List.drop_drop]
          exact (M.lft_step n _ (unhide HN) (unhide hnn)).symm
      clear hp hkeep hv1 hv2 hbel2
      go_wp2_with fail
      go_roundw
      case rel => exact ⟨k + sz.toNat, _, by omega, by go_num, HI⟩
      case measure => simp [intOf]; omega
    · go_wp2_with fail
      go_end0
      obtain ⟨h1, h3, h4, h6⟩ := hI
      rw [List.drop_of_length_le (by rw [bl_len]; omega)] at h6
      have e : n = M.spl (bl s) := by rw [← h6]; simp [M.pieces_nil]
      subst e
      exact ⟨rfl, h1, h3⟩

set_option maxHeartbeats 400000 in
set_option maxRecDepth 100000 in
theorem spl1_any (s : ByteArray) (w : World) (hs : s.size ≤ 3000) :
    Calls Tryz.prog 211 #[.string s] w fun e w' => e = .returned (.int .i64 (M.spl (bl s))) ∧ Below w.heap.size w w' := by
  go_enter Tryz.func211, Tryz.ntmps211
  go_wp2_with fail
  refine (walk_spl s w.heap.size _ hs (heap_alloc_new _ _)).mono ?_
  rintro e w1 ⟨rfl, hv, hbel⟩
  have hc := cell_of_one hv
  have hb := hide (((Below.refl w.heap.size w).alloc (Nat.le_refl _) (.cells #[.int .i64 0] 3)).trans hbel)
  clear hv hbel
  go_wp2_with fail
  go_ret
  exact ⟨rfl, unhide hb⟩

set_option maxHeartbeats 400000 in
set_option maxRecDepth 100000 in
theorem split_any (s : ByteArray) (w : World) (hs : s.size ≤ 3000) :
    Calls Tryz.prog 175 #[.string s] w fun e w' => e = .returned (.tuple #[.int .i64 (M.spl (bl s)), .int .i64 0]) ∧ Below w.heap.size w w' := by
  go_enter Tryz.func175, Tryz.ntmps175
  go_wp2_with (first | (go_at_call 211; refine (spl1_any _ _ hs).mono ?_; rintro e w1 ⟨rfl, hb⟩) | go_in)
  go_ret2
  exact ⟨rfl, by assumption⟩

set_option maxHeartbeats 400000 in
set_option maxRecDepth 100000 in
theorem split_long (s : ByteArray) (w : World) (hs : 3000 < s.size) (hm : s.size ≤ maxLen) :
    Calls Tryz.prog 175 #[.string s] w fun e w' => e = .returned (.tuple #[.int .i64 0, .int .i64 2]) ∧ w' = w := by
  unfold maxLen at hm
  go_enter Tryz.func175, Tryz.ntmps175
  go_wp2
  go_ret2
  exact ⟨rfl, rfl⟩

end Go.Proofs.YtaiinjfnkmidbaaGreatDoor

namespace Go.Proofs.YtaiinjfnkmidbaaGreatDoor
open Go.RowKit
set_option linter.unusedVariables false

set_option maxHeartbeats 400000 in
set_option maxRecDepth 100000 in
theorem readUnit_any (big : Bool) (s : ByteArray) (a b : Int) (w : World) (hs : 2 ≤ s.size) (ha : ((s[0]'(by omega)).toNat : Int) = a) (hb : ((s[1]'(by omega)).toNat : Int) = b) :
    Calls Tryz.prog 197 #[.bool big, .string s] w fun e w' => e = .returned (.int .i64 (M.ut big a b)) ∧ ∃ m, w' = w.drewN m := by
  have ha0 : 0 ≤ a ∧ a < 256 := by have := (s[0]'(by omega)).toNat_lt; omega
  have hb0 : 0 ≤ b ∧ b < 256 := by have := (s[1]'(by omega)).toNat_lt; omega
  have H1 := or_at 8 (a * 256) b (by omega) (by omega) (by omega) (by omega) (by omega) (by omega)
  have H2 := or_at 8 (b * 256) a (by omega) (by omega) (by omega) (by omega) (by omega) (by omega)
  cases big
  · go_enter Tryz.func197, Tryz.ntmps197
    go_wp2_with fail
    go_quiet (fail)
    go_wp2_with fail
    go_ret
    exact ⟨rfl, _, rfl⟩
  · go_enter Tryz.func197, Tryz.ntmps197
    go_wp2_with fail
    go_quiet (fail)
    go_wp2_with fail
    go_ret
    exact ⟨rfl, _, rfl⟩

set_option maxHeartbeats 400000 in
set_option maxRecDepth 100000 in
theorem isFirst_any (u : Int) (w : World) : Calls Tryz.prog 198 #[.int .i64 u] w fun e w' => e = .returned (.bool (M.fst16 u)) ∧ w' = w := by
  by_cases h : 55296 ≤ u
  · go_enter Tryz.func198, Tryz.ntmps198
    go_wp2
    go_ret
    exact ⟨ret_bool (by simp [M.fst16, h]), rfl⟩
  · go_enter Tryz.func198, Tryz.ntmps198
    go_wp2
    go_ret
    exact ⟨ret_bool (by simp [M.fst16]; omega), rfl⟩
set_option maxHeartbeats 400000 in
set_option maxRecDepth 100000 in
theorem isSecond_any (u : Int) (w : World) : Calls Tryz.prog 200 #[.int .i64 u] w fun e w' => e = .returned (.bool (M.snd16 u)) ∧ w' = w := by
  by_cases h : 56320 ≤ u
  · go_enter Tryz.func200, Tryz.ntmps200
    go_wp2
    go_ret
    exact ⟨ret_bool (by simp [M.snd16, h]), rfl⟩
  · go_enter Tryz.func200, Tryz.ntmps200
    go_wp2
    go_ret
    exact ⟨ret_bool (by simp [M.snd16]; omega), rfl⟩
set_option maxHeartbeats 400000 in
set_option maxRecDepth 100000 in
theorem alone_any (u : Int) (w : World) : Calls Tryz.prog 199 #[.int .i64 u] w fun e w' => e = .returned (.int .i64 (M.aln u)) ∧ w' = w := by
  obtain ⟨q, HQ⟩ : ∃ q, Hid (M.snd16 u = q) := ⟨_, rfl⟩
  have HA : Hid (M.aln u = if q then 65533 else u) := by show M.aln u = _; unfold M.aln; rw [unhide HQ]
  cases q
  all_goals
    go_enter Tryz.func199, Tryz.ntmps199
    go_wp2_with fail
    refine (isSecond_any _ _).mono ?_
    rintro e w1 ⟨rfl, hw⟩
    replace hw := hw.symm
    subst hw
    rw [unhide HQ]
    go_wp2_with fail
    go_ret
    exact ⟨ret_int (by rw [unhide HA]; rfl), rfl⟩

theorem nx_eq {big : Bool} {s : ByteArray} {p : Int} {k : Nat} (h : M.nx16 big (bl s) = (p, k)) : Ending.returned (.tuple #[.int .i64 p, .int .i64 (k : Int)]) = .returned (.tuple #[.int .i64 (M.nx16 big (bl s)).1, .int .i64 ((M.nx16 big (bl s)).2 : Int)]) := by rw [h]
theorem bl_1 (s : ByteArray) (h : s.size = 1) : ∃ a, bl s = [a] := by
  have := bl_len s
  match hb : bl s with
  | [] => rw [hb] at this; simp at this; omega
  | [a] => exact ⟨a, rfl⟩
  | _ :: _ :: _ => rw [hb] at this; simp at this; omega
theorem bl_2 (s : ByteArray) (h : 2 ≤ s.size) : bl s = ((s[0]'(by omega)).toNat : Int) :: ((s[1]'(by omega)).toNat : Int) :: (bl s).drop 2 := by
  have h0 := bl_drop s 0 (by omega)
  have h1 := bl_drop s 1 (by omega)
  rw [List.drop_zero] at h0
  conv => lhs; rw [h0, h1]

set_option maxHeartbeats 400000 in
set_option maxRecDepth 100000 in
theorem next_any (big : Bool) (s : ByteArray) (w : World) (h0 : 0 < s.size) (hs : s.size ≤ 3000) :
    Calls Tryz.prog 152 #[.bool big, .string s] w fun e w' => e = .returned (.tuple #[.int .i64 (M.nx16 big (bl s)).1, .int .i64 ((M.nx16 big (bl s)).2 : Int)]) ∧ ∃ m, w' = w.drewN m := by
  by_cases h1 : s.size = 1
  · obtain ⟨a, e⟩ := bl_1 s h1
    have HR := hide (nx_eq (big := big) (s := s) (p := 65533) (k := 1) (by rw [e]; rfl))
    have h1' : ((s.size : Int) == 1) = true := by simp; omega
    clear e
    go_enter Tryz.func152, Tryz.ntmps152
    go_wp2_with fail
    go_ret2
    exact ⟨unhide HR, 0, rfl⟩
  have h1' : ((s.size : Int) == 1) = false := by simp; omega
  have h2 : 2 ≤ s.size := by omega
  have E2 := hide (bl_2 s h2)
  have R1 := hide (fun a b (ha : ((s[0]'(by omega)).toNat : Int) = a) (hb : ((s[1]'(by omega)).toNat : Int) = b) (w : World) => readUnit_any big s a b w h2 ha hb)
  obtain ⟨a, HA⟩ : ∃ a, Hid (((s[0]'(by omega)).toNat : Int) = a) := ⟨_, hide rfl⟩
  obtain ⟨b, HB⟩ : ∃ b, Hid (((s[1]'(by omega)).toNat : Int) = b) := ⟨_, hide rfl⟩
  replace R1 := hide (unhide R1 a b HA HB)
  replace E2 : Hid (bl s = a :: b :: (bl s).drop 2) := by have := unhide E2; rw [unhide HA, unhide HB] at this; exact this
  have ha0 : 0 ≤ a ∧ a < 256 := by have := unhide HA; have := (s[0]'(by omega)).toNat_lt; omega
  have hb0 : 0 ≤ b ∧ b < 256 := by have := unhide HB; have := (s[1]'(by omega)).toNat_lt; omega
  obtain ⟨u, HU⟩ : ∃ u, Hid (M.ut big a b = u) := ⟨_, rfl⟩
  have hu : 0 ≤ u ∧ u < 65536 := by have := unhide HU; unfold M.ut at this; split at this <;> omega
  obtain ⟨q, HQ⟩ : ∃ q, Hid (M.fst16 u = q) := ⟨_, rfl⟩
  have HN : Hid (∃ t, bl s = a :: b :: t ∧ t.length = s.size - 2) := ⟨_, unhide E2, by simp [bl_len]⟩
  cases q
  · have HR := hide (nx_eq (big := big) (s := s) (p := M.aln u) (k := 2) (by
      obtain ⟨t, e, _⟩ := unhide HN
      rw [e]
      have h1 := unhide HU
      have h2 := unhide HQ
      match t with
      | [] => simp [M.nx16, h1, h2]
      | [_] => simp [M.nx16, h1, h2]
      | _ :: _ :: _ => simp [M.nx16, h1, h2]))
    go_enter Tryz.func152, Tryz.ntmps152
    go_wp2_with fail
    refine (unhide R1 _).mono ?_
    rintro e w1 ⟨rfl, m1, rfl⟩
    rw [unhide HU]
    go_wp2_with fail
    refine (isFirst_any _ _).mono ?_
    rintro e w2 ⟨rfl, hw⟩
    replace hw := hw.symm
    subst hw
    rw [unhide HQ]
    go_wp2_with fail
    refine (alone_any _ _).mono ?_
    rintro e w2 ⟨rfl, hw⟩
    replace hw := hw.symm
    subst hw
    go_wp2_with fail
    go_ret2
    exact ⟨unhide HR, _, rfl⟩
  · by_cases h4 : s.size < 4
    · have HR := hide (nx_eq (big := big) (s := s) (p := 65533) (k := s.size) (by
        obtain ⟨t, e, hl⟩ := unhide HN
        rw [e]
        have h1 := unhide HU
        have h2 := unhide HQ
        match t, hl with
        | [], hl => simp at hl; simp [M.nx16, h1, h2]; omega
        | [_], hl => simp at hl; simp [M.nx16, h1, h2]; omega
        | _ :: _ :: _, hl => simp at hl; omega))
      go_enter Tryz.func152, Tryz.ntmps152
      go_wp2_with fail
      refine (unhide R1 _).mono ?_
      rintro e w1 ⟨rfl, m1, rfl⟩
      rw [unhide HU]
      go_wp2_with fail
      refine (isFirst_any _ _).mono ?_
      rintro e w2 ⟨rfl, hw⟩
      replace hw := hw.symm
      subst hw
      rw [unhide HQ]
      go_wp2_with fail
      go_ret2
      exact ⟨unhide HR, _, rfl⟩
    · have h4' : 4 ≤ s.size := by omega
      have z2 : 2 ≤ (s.extract 2 s.size).size := by simp; omega
      obtain ⟨c, HC⟩ : ∃ c, Hid ((((s.extract 2 s.size)[0]'(by omega)).toNat : Int) = c) := ⟨_, hide rfl⟩
      obtain ⟨d, HD⟩ : ∃ d, Hid ((((s.extract 2 s.size)[1]'(by omega)).toNat : Int) = d) := ⟨_, hide rfl⟩
      have hc0 : 0 ≤ c ∧ c < 256 := by have := unhide HC; have := ((s.extract 2 s.size)[0]'(by omega)).toNat_lt; omega
      have hd0 : 0 ≤ d ∧ d < 256 := by have := unhide HD; have := ((s.extract 2 s.size)[1]'(by omega)).toNat_lt; omega
      have R2 := hide (fun (w : World) => readUnit_any big (s.extract 2 s.size) c d w z2 HC HD)
      have HE : Hid (∃ t, bl s = a :: b :: c :: d :: t) := by
        have e1 := unhide E2
        have e2 := bl_2 (s.extract 2 s.size) z2
        rw [unhide HC, unhide HD, bl_extract] at e2
        rw [e2] at e1
        exact ⟨_, e1⟩
      obtain ⟨v, HV⟩ : ∃ v, Hid (M.ut big c d = v) := ⟨_, rfl⟩
      have hv : 0 ≤ v ∧ v < 65536 := by have := unhide HV; unfold M.ut at this; split at this <;> omega
      obtain ⟨r, HW⟩ : ∃ r, Hid (M.snd16 v = r) := ⟨_, rfl⟩
      have HF : Hid (55296 ≤ u ∧ u < 56320) := by have := unhide HQ; exact hide (by simpa [M.fst16] using this)
      have hu1 := (unhide HF).1
      have hu2 := (unhide HF).2
      cases r
      · have HR := hide (nx_eq (big := big) (s := s) (p := 65533) (k := 2) (by
          obtain ⟨t, e⟩ := unhide HE
          rw [e]
          have h1 := unhide HU
          have h2 := unhide HQ
          have h3 := unhide HV
          have h4 := unhide HW
          simp [M.nx16, h1, h2, h3, h4]))
        go_enter Tryz.func152, Tryz.ntmps152
        go_wp2_with fail
        refine (unhide R1 _).mono ?_
        rintro e w1 ⟨rfl, m1, rfl⟩
        rw [unhide HU]
        go_wp2_with fail
        refine (isFirst_any _ _).mono ?_
        rintro e w2 ⟨rfl, hw⟩
        replace hw := hw.symm
        subst hw
        rw [unhide HQ]
        go_wp2_with fail
        refine (unhide R2 _).mono ?_
        rintro e w2 ⟨rfl, m2, rfl⟩
        rw [unhide HV]
        go_wp2_with fail
        refine (isSecond_any _ _).mono ?_
        rintro e w3 ⟨rfl, hw⟩
        replace hw := hw.symm
        subst hw
        rw [unhide HW]
        go_wp2_with fail
        go_ret2
        exact ⟨unhide HR, _, rfl⟩
      · have HS : Hid (56320 ≤ v ∧ v < 57344) := by have := unhide HW; exact hide (by simpa [M.snd16] using this)
        have hv1 := (unhide HS).1
        have hv2 := (unhide HS).2
        have HR := hide (nx_eq (big := big) (s := s) (p := 65536 + (u - 55296) * 1024 + (v - 56320)) (k := 4) (by
          obtain ⟨t, e⟩ := unhide HE
          rw [e]
          have h1 := unhide HU
          have h2 := unhide HQ
          have h3 := unhide HV
          have h4 := unhide HW
          simp [M.nx16, h1, h2, h3, h4]))
        go_enter Tryz.func152, Tryz.ntmps152
        go_wp2_with fail
        refine (unhide R1 _).mono ?_
        rintro e w1 ⟨rfl, m1, rfl⟩
        rw [unhide HU]
        go_wp2_with fail
        refine (isFirst_any _ _).mono ?_
        rintro e w2 ⟨rfl, hw⟩
        replace hw := hw.symm
        subst hw
        rw [unhide HQ]
        go_wp2_with fail
        refine (unhide R2 _).mono ?_
        rintro e w2 ⟨rfl, m2, rfl⟩
        rw [unhide HV]
        go_wp2_with fail
        refine (isSecond_any _ _).mono ?_
        rintro e w3 ⟨rfl, hw⟩
        replace hw := hw.symm
        subst hw
        rw [unhide HW]
        go_wp2_with fail
        go_ret2
        exact ⟨unhide HR, _, rfl⟩
end Go.Proofs.YtaiinjfnkmidbaaGreatDoor

namespace Go.Proofs.YtaiinjfnkmidbaaGreatDoor
open Go.RowKit
set_option linter.unusedVariables false

/-- What a round of utf16.Decode's loop knows. -/
def InU (big : Bool) (s : ByteArray) (w wr : World) (k : Nat) (xs : List Int) (v : Value) : Prop :=
  wr.ownsRow w.heap.size 3 1 v xs.length (xs.map (Value.int .i64)) ∧ Below w.heap.size w wr ∧ xs.length ≤ k ∧ xs ++ M.dec16 big ((bl s).drop k) = M.dec16 big (bl s)

theorem InU.step {big : Bool} {s : ByteArray} {w wr w2 : World} {k : Nat} {xs : List Int} {v v2 : Value} {p : Int} {z : Nat} (h : InU big s w wr k xs v) (hk : k < s.size) (hn : M.nx16 big ((bl s).drop k) = (p, z)) (hz : 1 ≤ z)
    (ho : w2.ownsRow w.heap.size 3 1 v2 (xs ++ [p]).length ((xs ++ [p]).map (Value.int .i64))) (hb : Below w.heap.size wr w2) : InU big s w w2 (k + z) (xs ++ [p]) v2 := by
  obtain ⟨h1, h2, h3, h4⟩ := h
  refine ⟨ho, h2.trans hb, by simp; omega, ?_⟩
  have hne : (bl s).drop k ≠ [] := fun e => by have := congrArg List.length e; simp [bl_len] at this; omega
  rw [← h4, M.dec16_step big hne, hn]
  simp

set_option maxHeartbeats 400000 in
set_option maxRecDepth 100000 in
theorem dec16_in (big : Bool) (s : ByteArray) (B : Nat) (w : World) (hs : s.size ≤ 3000) (hB : w.cell? ⟨B, 0, none⟩ = some (.bool big)) :
    Calls Tryz.prog 151 #[.string s, .pointer (some ⟨B, 0, none⟩)] w fun e w' => ∃ v, e = .returned v ∧ Ints w' v (M.dec16 big (bl s)) ∧ Below w.heap.size w w' := by
  have hlt := World.block_lt_of_cell? w _ hB
  have HB := hide hB
  have HI : InU big s w w 0 [] (.slice none 0 0) := ⟨World.ownsRow_nil _ _ _ _, Below.refl _ _, Nat.le_refl _, by simp⟩
  clear hB
  go_enter Tryz.func151, Tryz.ntmps151
  go_wp2_with fail
  go_loopw [4, 5] (fun v i wr => ∃ (k : Nat) (xs : List Int), k ≤ s.size ∧ i = .int .i64 k ∧ InU big s w wr k xs v) (fun _ i _ => s.size - (intOf i).toNat)
  case atStart => exact ⟨0, [], by omega, rfl, HI⟩
  case round =>
    obtain ⟨k, xs, hk, rfl, hI⟩ := hrel
    clear HI
    have hsz := hI.2.1.size
    have hxs := hI.2.2.1
    by_cases hks : k < s.size
    · have hcb : wr.cell? ⟨B, 0, none⟩ = some (.bool big) := (hI.2.1.cell (p := ⟨B, 0, none⟩) hlt).trans (unhide HB)
      obtain ⟨p, z, HN⟩ : ∃ p z, Hid (M.nx16 big ((bl s).drop k) = (p, z)) := ⟨_, _, rfl⟩
      have hz := M.nx16_size big ((bl s).drop k) (fun e => by have := congrArg List.length e; simp [bl_len] at this; omega)
      rw [unhide HN] at hz
      simp only [List.length_drop, bl_len] at hz
      have HR : Hid (∀ w : World, Calls Tryz.prog 152 #[.bool big, .string (s.extract k s.size)] w fun e w' => e = .returned (.tuple #[.int .i64 p, .int .i64 (z : Int)]) ∧ ∃ m, w' = w.drewN m) := by
        refine hide fun w => ?_
        have := next_any big (s.extract k s.size) w (by simp; omega) (by simp; omega)
        rw [bl_extract, unhide HN] at this
        exact this
      obtain ⟨ao, cap, hsh⟩ := owns_shape hI.1
      subst hsh
      go_wp2_with fail
      go_quiet ((go_at_call 152; exact Calls.quiet_of (unhide HR _)))
      go_wp2_with (at_builtin; refine append_ints rfl (.tmp 20) (.tmp 22) rfl w.heap.size _ xs rfl (owns_da hI.1 _ _) _ [p] rfl (one_int _ _) (by simp; omega) (by simp; omega) ?_)
      intro v2 w2 ho2 hb2
      have HI := hI.step (v2 := v2) hks HN hz.1 (by simpa using ho2) (((below_drewN (Below.refl _ _) _).alloc hsz _).trans hb2)
      obtain ⟨ao2, cap2, hsh2⟩ := owns_shape ho2
      subst hsh2
      clear hI ho2 hb2
      go_wp2_with fail
      go_roundw
      case rel => exact ⟨k + z, xs ++ [p], by omega, by go_num, HI⟩
      case measure => simp [intOf]; omega
    · obtain ⟨h1, h2, h3, h4⟩ := hI
      rw [List.drop_of_length_le (by rw [bl_len]; omega), M.dec16_nil, List.append_nil] at h4
      have HV := hide (Ints.of_owns h1)
      rw [h4] at HV
      obtain ⟨ao, cap, hsh⟩ := owns_shape h1
      subst hsh
      have hl := congrArg List.length h4
      clear h1 h4
      go_wp2_with fail
      go_ret
      exact ⟨_, rfl, unhide HV, h2⟩

set_option maxHeartbeats 400000 in
set_option maxRecDepth 100000 in
theorem decode16_any (big : Bool) (s : ByteArray) (w : World) (hs : s.size ≤ 3000) :
    Calls Tryz.prog 90 #[.bool big, .string s] w fun e w' => ∃ v, e = .returned (.tuple #[v, .int .i64 0]) ∧ Ints w' v (M.dec16 big (bl s)) ∧ Below w.heap.size w w' := by
  go_enter Tryz.func90, Tryz.ntmps90
  go_wp2_with (first | (go_at_call 151; refine (dec16_in big _ _ _ hs (by simp)).mono ?_; rintro e w1 ⟨v, rfl, hI, hb⟩; have HI := hide hI; have HB := hide (bstep (balloc _ _) hb); obtain ⟨ao, cap, rfl, _⟩ := hI; clear hb) | go_in)
  go_ret2
  exact ⟨_, rfl, unhide HI, unhide HB⟩

set_option maxHeartbeats 400000 in
set_option maxRecDepth 100000 in
theorem decode16_long (big : Bool) (s : ByteArray) (w : World) (hs : 3000 < s.size) (hm : s.size ≤ maxLen) :
    Calls Tryz.prog 90 #[.bool big, .string s] w fun e w' => e = .returned (.tuple #[.slice none 0 0, .int .i64 2]) ∧ Below w.heap.size w w' := by
  unfold maxLen at hm
  go_enter Tryz.func90, Tryz.ntmps90
  go_wp2
  go_ret2
  exact ⟨rfl, balloc _ _⟩
end Go.Proofs.YtaiinjfnkmidbaaGreatDoor
