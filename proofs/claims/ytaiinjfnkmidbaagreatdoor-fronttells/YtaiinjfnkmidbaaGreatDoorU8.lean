/- Laws that the statements of this seat lean on, part 8 (FB6 LayP LayT LT MathJ PB FP6 MK ML LF LG PC LO PF SB6 PD PE RL5 MathM6 SC6 SD6 EN6 CF6 CK6 FC6 FD6 FT6 DG6 FG6 MR FP RX6 RE6): each a contract of a function, or a plain fact; conditions stand at each. -/
import Derived.Deep.CutBlock
import Derived.Deep.CutRange
import Derived.Deep.DeepCutAuto
import Derived.Deep.RegionHeld3
import Derived.Lib.IndexMore
import Derived.Lib.SlTrimSet
import Derived.Lib.Strings
import Derived.Shelf.Small.Strs
import Derived.Shelf.Strings.Prefix
import Derived.Shelf.Strings.Shaped
import Derived.Shelf.Strings.SlTrimAscii
import Derived.Test.YtaiinjfnkmidbaaGreatDoorProg
import Derived.Test.YtaiinjfnkmidbaaGreatDoorU7
namespace Go.Proofs.YtaiinjfnkmidbaaGreatDoor
open Go.RowKit
set_option linter.unusedVariables false

/-- A front in memory. -/
structure Fb (B : Nat) (f : Fr) (w : World) : Prop where
  c0 : w.cell? ⟨B, 0, none⟩ = some (.string f.L)
  c1 : w.cell? ⟨B, 1, none⟩ = some (.int .i64 f.enc)
  c2 : w.cell? ⟨B, 2, none⟩ = some (.int .i64 f.why)
  c3 : w.cell? ⟨B, 3, none⟩ = some (.string f.W)
  c4 : w.cell? ⟨B, 4, none⟩ = some (.int .i64 f.e)
  c5 : w.cell? ⟨B, 5, none⟩ = some (.string f.r)
  c6 : w.cell? ⟨B, 6, none⟩ = some (.int .i64 f.t.1)
  c7 : w.cell? ⟨B, 7, none⟩ = some (.bool f.t.2.1)
  c8 : w.cell? ⟨B, 8, none⟩ = some (.bool f.t.2.2)
  f0 : w.frozen? ⟨B, 0, none⟩ = false
  f1 : w.frozen? ⟨B, 1, none⟩ = false
  f2 : w.frozen? ⟨B, 2, none⟩ = false
  f3 : w.frozen? ⟨B, 3, none⟩ = false
  f4 : w.frozen? ⟨B, 4, none⟩ = false
  f5 : w.frozen? ⟨B, 5, none⟩ = false
  f6 : w.frozen? ⟨B, 6, none⟩ = false
  f7 : w.frozen? ⟨B, 7, none⟩ = false
  f8 : w.frozen? ⟨B, 8, none⟩ = false
theorem Fb.set6 {B : Nat} {f : Fr} {w : World} (h : Fb B f w) (x : Int) : Fb B { f with t := (x, f.t.2.1, f.t.2.2) } (w.setCell ⟨B, 6, none⟩ (.int .i64 x)) where
  c0 := (World.cell?_setCell_other _ _ _ _ (by simp)).trans h.c0
  c1 := (World.cell?_setCell_other _ _ _ _ (by simp)).trans h.c1
  c2 := (World.cell?_setCell_other _ _ _ _ (by simp)).trans h.c2
  c3 := (World.cell?_setCell_other _ _ _ _ (by simp)).trans h.c3
  c4 := (World.cell?_setCell_other _ _ _ _ (by simp)).trans h.c4
  c5 := (World.cell?_setCell_other _ _ _ _ (by simp)).trans h.c5
  c6 := World.cell?_setCell_same _ _ _ h.c6
  c7 := (World.cell?_setCell_other _ _ _ _ (by simp)).trans h.c7
  c8 := (World.cell?_setCell_other _ _ _ _ (by simp)).trans h.c8
  f0 := by rw [World.frozen?_setCell]; exact h.f0
  f1 := by rw [World.frozen?_setCell]; exact h.f1
  f2 := by rw [World.frozen?_setCell]; exact h.f2
  f3 := by rw [World.frozen?_setCell]; exact h.f3
  f4 := by rw [World.frozen?_setCell]; exact h.f4
  f5 := by rw [World.frozen?_setCell]; exact h.f5
  f6 := by rw [World.frozen?_setCell]; exact h.f6
  f7 := by rw [World.frozen?_setCell]; exact h.f7
  f8 := by rw [World.frozen?_setCell]; exact h.f8
theorem Fb.set7 {B : Nat} {f : Fr} {w : World} (h : Fb B f w) (x : Bool) : Fb B { f with t := (f.t.1, x, f.t.2.2) } (w.setCell ⟨B, 7, none⟩ (.bool x)) where
  c0 := (World.cell?_setCell_other _ _ _ _ (by simp)).trans h.c0
  c1 := (World.cell?_setCell_other _ _ _ _ (by simp)).trans h.c1
  c2 := (World.cell?_setCell_other _ _ _ _ (by simp)).trans h.c2
  c3 := (World.cell?_setCell_other _ _ _ _ (by simp)).trans h.c3
  c4 := (World.cell?_setCell_other _ _ _ _ (by simp)).trans h.c4
  c5 := (World.cell?_setCell_other _ _ _ _ (by simp)).trans h.c5
  c6 := (World.cell?_setCell_other _ _ _ _ (by simp)).trans h.c6
  c7 := World.cell?_setCell_same _ _ _ h.c7
  c8 := (World.cell?_setCell_other _ _ _ _ (by simp)).trans h.c8
  f0 := by rw [World.frozen?_setCell]; exact h.f0
  f1 := by rw [World.frozen?_setCell]; exact h.f1
  f2 := by rw [World.frozen?_setCell]; exact h.f2
  f3 := by rw [World.frozen?_setCell]; exact h.f3
  f4 := by rw [World.frozen?_setCell]; exact h.f4
  f5 := by rw [World.frozen?_setCell]; exact h.f5
  f6 := by rw [World.frozen?_setCell]; exact h.f6
  f7 := by rw [World.frozen?_setCell]; exact h.f7
  f8 := by rw [World.frozen?_setCell]; exact h.f8
theorem Fb.set8 {B : Nat} {f : Fr} {w : World} (h : Fb B f w) (x : Bool) : Fb B { f with t := (f.t.1, f.t.2.1, x) } (w.setCell ⟨B, 8, none⟩ (.bool x)) where
  c0 := (World.cell?_setCell_other _ _ _ _ (by simp)).trans h.c0
  c1 := (World.cell?_setCell_other _ _ _ _ (by simp)).trans h.c1
  c2 := (World.cell?_setCell_other _ _ _ _ (by simp)).trans h.c2
  c3 := (World.cell?_setCell_other _ _ _ _ (by simp)).trans h.c3
  c4 := (World.cell?_setCell_other _ _ _ _ (by simp)).trans h.c4
  c5 := (World.cell?_setCell_other _ _ _ _ (by simp)).trans h.c5
  c6 := (World.cell?_setCell_other _ _ _ _ (by simp)).trans h.c6
  c7 := (World.cell?_setCell_other _ _ _ _ (by simp)).trans h.c7
  c8 := World.cell?_setCell_same _ _ _ h.c8
  f0 := by rw [World.frozen?_setCell]; exact h.f0
  f1 := by rw [World.frozen?_setCell]; exact h.f1
  f2 := by rw [World.frozen?_setCell]; exact h.f2
  f3 := by rw [World.frozen?_setCell]; exact h.f3
  f4 := by rw [World.frozen?_setCell]; exact h.f4
  f5 := by rw [World.frozen?_setCell]; exact h.f5
  f6 := by rw [World.frozen?_setCell]; exact h.f6
  f7 := by rw [World.frozen?_setCell]; exact h.f7
  f8 := by rw [World.frozen?_setCell]; exact h.f8
theorem Fb.new2 (w : World) (o : Obj) : Fb (w.heap.size + 1) (Fr.new ⟨#[]⟩) ((w.alloc o).alloc (.cells #[.string ⟨#[]⟩, .int .i64 0, .int .i64 0, .string ⟨#[]⟩, .int .i64 0, .string ⟨#[]⟩, .int .i64 0, .bool false, .bool false] 25)) := by
  have := Fb.new (w.alloc o) (Fr.new ⟨#[]⟩)
  rw [World.size_alloc] at this
  exact this
theorem Fb.put5 {B : Nat} {f : Fr} {w : World} (h : Fb B f w) (e : Int) (r : ByteArray) (t : M.St) : Fb B { f with e := e, r := r, t := t } (((((w.setCell ⟨B, 4, none⟩ (.int .i64 e)).setCell ⟨B, 5, none⟩ (.string r)).setCell ⟨B, 6, none⟩ (.int .i64 t.1)).setCell ⟨B, 7, none⟩ (.bool t.2.1)).setCell ⟨B, 8, none⟩ (.bool t.2.2)) :=
  (((((h.set4 e).set5 r).set6 t.1).set7 t.2.1).set8 t.2.2)
theorem Fb.put9 {B : Nat} {f : Fr} {w : World} (h : Fb B f w) (g : Fr) : Fb B g (((((((((w.setCell ⟨B, 0, none⟩ (.string g.L)).setCell ⟨B, 1, none⟩ (.int .i64 g.enc)).setCell ⟨B, 2, none⟩ (.int .i64 g.why)).setCell ⟨B, 3, none⟩ (.string g.W)).setCell ⟨B, 4, none⟩ (.int .i64 g.e)).setCell ⟨B, 5, none⟩ (.string g.r)).setCell ⟨B, 6, none⟩ (.int .i64 g.t.1)).setCell ⟨B, 7, none⟩ (.bool g.t.2.1)).setCell ⟨B, 8, none⟩ (.bool g.t.2.2)) :=
  (((((((((h.set0 g.L).set1 g.enc).set2 g.why).set3 g.W).set4 g.e).set5 g.r).set6 g.t.1).set7 g.t.2.1).set8 g.t.2.2)
theorem Fb.far5 {B A : Nat} {f : Fr} {w : World} (h : Fb A f w) (hA : B ≠ A) (e : Int) (r : ByteArray) (t : M.St) : Fb A f (((((w.setCell ⟨B, 4, none⟩ (.int .i64 e)).setCell ⟨B, 5, none⟩ (.string r)).setCell ⟨B, 6, none⟩ (.int .i64 t.1)).setCell ⟨B, 7, none⟩ (.bool t.2.1)).setCell ⟨B, 8, none⟩ (.bool t.2.2)) :=
  (((((h.far ⟨B, 4, none⟩ _ hA).far ⟨B, 5, none⟩ _ hA).far ⟨B, 6, none⟩ _ hA).far ⟨B, 7, none⟩ _ hA).far ⟨B, 8, none⟩ _ hA)
theorem Fb.far9 {B A : Nat} {f : Fr} {w : World} (h : Fb A f w) (hA : B ≠ A) (g : Fr) : Fb A f (((((((((w.setCell ⟨B, 0, none⟩ (.string g.L)).setCell ⟨B, 1, none⟩ (.int .i64 g.enc)).setCell ⟨B, 2, none⟩ (.int .i64 g.why)).setCell ⟨B, 3, none⟩ (.string g.W)).setCell ⟨B, 4, none⟩ (.int .i64 g.e)).setCell ⟨B, 5, none⟩ (.string g.r)).setCell ⟨B, 6, none⟩ (.int .i64 g.t.1)).setCell ⟨B, 7, none⟩ (.bool g.t.2.1)).setCell ⟨B, 8, none⟩ (.bool g.t.2.2)) :=
  (((((((((h.far ⟨B, 0, none⟩ _ hA).far ⟨B, 1, none⟩ _ hA).far ⟨B, 2, none⟩ _ hA).far ⟨B, 3, none⟩ _ hA).far ⟨B, 4, none⟩ _ hA).far ⟨B, 5, none⟩ _ hA).far ⟨B, 6, none⟩ _ hA).far ⟨B, 7, none⟩ _ hA).far ⟨B, 8, none⟩ _ hA)
theorem bput5 {B D : Nat} {w0 w : World} (h : Below D w0 w) (hB : D ≤ B) (e : Int) (r : ByteArray) (t : M.St) : Below D w0 (((((w.setCell ⟨B, 4, none⟩ (.int .i64 e)).setCell ⟨B, 5, none⟩ (.string r)).setCell ⟨B, 6, none⟩ (.int .i64 t.1)).setCell ⟨B, 7, none⟩ (.bool t.2.1)).setCell ⟨B, 8, none⟩ (.bool t.2.2)) :=
  (((((h.setCell (p := ⟨B, 4, none⟩) hB _).setCell (p := ⟨B, 5, none⟩) hB _).setCell (p := ⟨B, 6, none⟩) hB _).setCell (p := ⟨B, 7, none⟩) hB _).setCell (p := ⟨B, 8, none⟩) hB _)
theorem bput9 {B D : Nat} {w0 w : World} (h : Below D w0 w) (hB : D ≤ B) (g : Fr) : Below D w0 (((((((((w.setCell ⟨B, 0, none⟩ (.string g.L)).setCell ⟨B, 1, none⟩ (.int .i64 g.enc)).setCell ⟨B, 2, none⟩ (.int .i64 g.why)).setCell ⟨B, 3, none⟩ (.string g.W)).setCell ⟨B, 4, none⟩ (.int .i64 g.e)).setCell ⟨B, 5, none⟩ (.string g.r)).setCell ⟨B, 6, none⟩ (.int .i64 g.t.1)).setCell ⟨B, 7, none⟩ (.bool g.t.2.1)).setCell ⟨B, 8, none⟩ (.bool g.t.2.2)) :=
  (((((((((h.setCell (p := ⟨B, 0, none⟩) hB _).setCell (p := ⟨B, 1, none⟩) hB _).setCell (p := ⟨B, 2, none⟩) hB _).setCell (p := ⟨B, 3, none⟩) hB _).setCell (p := ⟨B, 4, none⟩) hB _).setCell (p := ⟨B, 5, none⟩) hB _).setCell (p := ⟨B, 6, none⟩) hB _).setCell (p := ⟨B, 7, none⟩) hB _).setCell (p := ⟨B, 8, none⟩) hB _)
theorem oput5 {B D ty sz n : Nat} {w : World} {v : Value} {xs : List Value} (h : w.ownsRow D ty sz v n xs) (hB : B < D) (e : Int) (r : ByteArray) (t : M.St) : World.ownsRow (((((w.setCell ⟨B, 4, none⟩ (.int .i64 e)).setCell ⟨B, 5, none⟩ (.string r)).setCell ⟨B, 6, none⟩ (.int .i64 t.1)).setCell ⟨B, 7, none⟩ (.bool t.2.1)).setCell ⟨B, 8, none⟩ (.bool t.2.2)) D ty sz v n xs :=
  (ownsRow_setCell_below (ownsRow_setCell_below (ownsRow_setCell_below (ownsRow_setCell_below (ownsRow_setCell_below h (a := ⟨B, 4, none⟩) hB _) (a := ⟨B, 5, none⟩) hB _) (a := ⟨B, 6, none⟩) hB _) (a := ⟨B, 7, none⟩) hB _) (a := ⟨B, 8, none⟩) hB _)
theorem oput9 {B D ty sz n : Nat} {w : World} {v : Value} {xs : List Value} (h : w.ownsRow D ty sz v n xs) (hB : B < D) (g : Fr) : World.ownsRow (((((((((w.setCell ⟨B, 0, none⟩ (.string g.L)).setCell ⟨B, 1, none⟩ (.int .i64 g.enc)).setCell ⟨B, 2, none⟩ (.int .i64 g.why)).setCell ⟨B, 3, none⟩ (.string g.W)).setCell ⟨B, 4, none⟩ (.int .i64 g.e)).setCell ⟨B, 5, none⟩ (.string g.r)).setCell ⟨B, 6, none⟩ (.int .i64 g.t.1)).setCell ⟨B, 7, none⟩ (.bool g.t.2.1)).setCell ⟨B, 8, none⟩ (.bool g.t.2.2)) D ty sz v n xs :=
  (ownsRow_setCell_below (ownsRow_setCell_below (ownsRow_setCell_below (ownsRow_setCell_below (ownsRow_setCell_below (ownsRow_setCell_below (ownsRow_setCell_below (ownsRow_setCell_below (ownsRow_setCell_below h (a := ⟨B, 0, none⟩) hB _) (a := ⟨B, 1, none⟩) hB _) (a := ⟨B, 2, none⟩) hB _) (a := ⟨B, 3, none⟩) hB _) (a := ⟨B, 4, none⟩) hB _) (a := ⟨B, 5, none⟩) hB _) (a := ⟨B, 6, none⟩) hB _) (a := ⟨B, 7, none⟩) hB _) (a := ⟨B, 8, none⟩) hB _)
end Go.Proofs.YtaiinjfnkmidbaaGreatDoor

namespace Go.Proofs
open Go.Shelf
end Go.Proofs

namespace Go.Proofs
open Go.Shelf
end Go.Proofs

namespace Go.Proofs.YtaiinjfnkmidbaaGreatDoor
open Go.RowKit
set_option linter.unusedVariables false

end Go.Proofs.YtaiinjfnkmidbaaGreatDoor

namespace Go.Proofs.YtaiinjfnkmidbaaGreatDoor
open Go.RowKit

end Go.Proofs.YtaiinjfnkmidbaaGreatDoor

namespace Go.Proofs.YtaiinjfnkmidbaaGreatDoor
open Go.RowKit
set_option linter.unusedVariables false

end Go.Proofs.YtaiinjfnkmidbaaGreatDoor

namespace Go.Proofs.YtaiinjfnkmidbaaGreatDoor
open Go.RowKit
set_option linter.unusedVariables false

def BgSays : Prop := ∀ (L : ByteArray) (w : World), L.size ≤ 3000 → Calls Tryz.prog 13 #[.string L] w fun e w' => e = .returned (.tuple #[(Fr.new L).v, .int .i64 0]) ∧ Below w.heap.size w w'
def BgErrs : Prop := ∀ (L : ByteArray) (w : World), L.size ≤ maxLen → 3000 < L.size → Calls Tryz.prog 13 #[.string L] w fun e w' => e = .returned (.tuple #[(Fr.new ⟨#[]⟩).v, .int .i64 2]) ∧ Below w.heap.size w w'
def CkSays : Prop := ∀ (f : Fr) (w : World), f.L.size ≤ maxLen → f.W.size ≤ maxLen → f.r.size ≤ maxLen → Mx w → Calls Tryz.prog 20 #[f.v] w fun e w' => e = .returned (.int .i64 f.chk) ∧ Below w.heap.size w w'
def FdSays : Prop := ∀ (f : Fr) (p : ByteArray) (last : Bool) (w : World), f.chk = 0 → p.size ≤ 3000 → Mx w → Calls Tryz.prog 14 #[f.v, .string p, .bool last] w fun e w' => ∃ v, e = .returned (.tuple #[v, (f.nxt p last).v, .int .i64 0]) ∧ w'.ownsRow w.heap.size 3 1 v (f.outs p last).length ((f.outs p last).map (Value.int .i64)) ∧ Below w.heap.size w w'
def FdErrs : Prop := ∀ (f : Fr) (p : ByteArray) (last : Bool) (w : World), f.L.size ≤ maxLen → f.W.size ≤ maxLen → f.r.size ≤ maxLen → p.size ≤ maxLen → (f.chk ≠ 0 ∨ 3000 < p.size) → Mx w → Calls Tryz.prog 14 #[f.v, .string p, .bool last] w fun e w' => ∃ v, e = .returned (.tuple #[v, (Fr.new ⟨#[]⟩).v, .int .i64 (if f.chk = 0 then 2 else f.chk)]) ∧ Ints w' v [] ∧ Below w.heap.size w w'
theorem bg_ch : chI ⟨#[108, 97, 116, 105, 110, 49]⟩ (bl ⟨#[239, 187, 191, 97]⟩) = (1, 1, 3) := by decide +kernel
theorem bg_e1 : enF u8N (bl ⟨#[]⟩ ++ bl ⟨#[97, 98]⟩) = false := by decide +kernel
theorem bg_e2 : enF u8N (bl ⟨#[97, 98]⟩ ++ bl ⟨#[99, 226]⟩) = true := by decide +kernel
theorem bg_c2 : chI u8N (bl ⟨#[97, 98]⟩ ++ bl ⟨#[99, 226]⟩) = (1, 2, 0) := by decide +kernel
theorem bg_t3 : (M.TE 1 M.st0 (bl ⟨#[226]⟩ ++ bl ⟨#[]⟩)).1 = [65533] := by decide +kernel
def bgF1 : Fr := ⟨u8N, 0, 0, ⟨#[97, 98]⟩, 0, ⟨#[]⟩, M.st0⟩
def bgF2 : Fr := ⟨u8N, 1, 2, ⟨#[]⟩, 1, ⟨#[226]⟩, M.st0⟩
theorem bg_n1 : (Fr.new u8N).nxt ⟨#[97, 98]⟩ false = bgF1 := (nxt_wait bg_e1).trans rfl
theorem bg_o1 : (Fr.new u8N).outs ⟨#[97, 98]⟩ false = [] := outs_wait bg_e1
theorem bg_q : bl ⟨#[97, 98, 99, 226]⟩ = (bl ⟨#[97, 98]⟩ ++ bl ⟨#[99, 226]⟩).drop (0 : Int).toNat := by decide +kernel
theorem bg_r : M.RE 1 M.st0 (bl ⟨#[]⟩ ++ bl ⟨#[97, 98, 99, 226]⟩) = ([97, 98, 99], M.st0, [226]) := by decide +kernel
theorem bg_n2 : bgF1.nxt ⟨#[99, 226]⟩ false = bgF2 := nxt_got bg_e2 bg_c2 bg_q (by rw [bg_r]; decide) (by rw [bg_r])
theorem bg_o2 : bgF1.outs ⟨#[99, 226]⟩ false = [97, 98, 99] := (outs_got bg_e2 bg_c2 bg_q).trans (by rw [bg_r])
theorem bg_o3 : bgF2.outs ⟨#[]⟩ true = [65533] := (outs_end (f := bgF2) (by decide) ⟨#[]⟩).trans bg_t3
theorem bg_k0 : (Fr.new u8N).chk = 0 := (Infr.start u8N).chk (by decide)
theorem bg_I1 : Infr u8N ⟨#[97, 98]⟩ bgF1 [] := .inl ⟨bg_e1, rfl, rfl⟩
theorem bg_k1 : bgF1.chk = 0 := bg_I1.chk (by decide)
theorem bg_k2 : bgF2.chk = 0 := by
  have h := (bg_I1.step ⟨#[99, 226]⟩).chk (by decide)
  rw [bg_n2] at h
  exact h
set_option maxHeartbeats 3200000 in
set_option maxRecDepth 100000 in
theorem begunF_any (hC : ChSays) (hB : BgSays) (hF : FdSays) (hK : CkSays) (w : World) (hM : Mx w) : Calls Tryz.prog 19 #[] w fun e w' => e = .returned (.bool true) ∧ Below w.heap.size w w' := by
  have HM := hide hM
  have s1 := fun w h => hC ⟨#[108, 97, 116, 105, 110, 49]⟩ ⟨#[239, 187, 191, 97]⟩ w (by decide) (by decide) h
  rw [bg_ch] at s1
  have s2 := fun w => hB u8N w (by decide)
  have s3 := fun w h => hF (Fr.new u8N) ⟨#[97, 98]⟩ false w bg_k0 (by decide) h
  rw [bg_n1, bg_o1] at s3
  have s4 := fun w h => hF bgF1 ⟨#[99, 226]⟩ false w bg_k1 (by decide) h
  rw [bg_n2, bg_o2] at s4
  have s5 := fun w h => hF bgF2 ⟨#[]⟩ true w bg_k2 (by decide) h
  rw [bg_o3, show bgF2.nxt ⟨#[]⟩ true = Fr.new u8N from rfl] at s5
  have s6 := fun w h => hK bgF2 w (by decide) (by decide) (by decide) h
  rw [bg_k2] at s6
  have S1 := hide s1
  have S2 := hide s2
  have S3 := hide s3
  have S4 := hide s4
  have S5 := hide s5
  have S6 := hide s6
  dsimp only [Fr.v, bgF1, bgF2, Fr.new, u8N, M.st0] at S2 S3 S4 S5 S6
  dsimp only at S1
  clear hC hB hF hK hM s1 s2 s3 s4 s5 s6
  go_enter Tryz.func19, Tryz.ntmps19
  go_wp2_with fail
  refine (unhide S1 _ (unhide HM)).mono ?_
  rintro e w1 ⟨rfl, hb1⟩
  have HB1 := hide hb1
  clear hb1 S1
  go_wp2_with fail
  refine (unhide S2 _).mono ?_
  rintro e w2 ⟨rfl, hb2⟩
  have HB2 := hide (bstep (unhide HB1) hb2)
  clear hb2 S2 HB1
  go_wp2_with fail
  refine (unhide S3 _ ((unhide HM).below (bstep (unhide HB2) (balloc w2 (.cells #[.string ⟨#[117, 116, 102, 45, 56]⟩, .int .i64 0, .int .i64 0, .string ⟨#[]⟩, .int .i64 0, .string ⟨#[]⟩, .int .i64 0, .bool false, .bool false] 25))))).mono ?_
  rintro e w3 ⟨v3, rfl, ho3, hb3⟩
  obtain ⟨ao3, cap3, hsh3⟩ := owns_shape ho3
  subst hsh3
  have P3 := hide ((Fb.new w2 (Fr.new u8N)).on hb3)
  have HB3 := hide (bstep (bstep (unhide HB2) (balloc _ _)) hb3)
  clear ho3 hb3 S3 HB2
  go_wp2_with fail
  refine (unhide S4 _ ((unhide HM).below (bstep (unhide HB3) (balloc w3 (.cells #[.string ⟨#[117, 116, 102, 45, 56]⟩, .int .i64 0, .int .i64 0, .string ⟨#[97, 98]⟩, .int .i64 0, .string ⟨#[]⟩, .int .i64 0, .bool false, .bool false] 25))))).mono ?_
  rintro e w4 ⟨v4, rfl, ho4, hb4⟩
  obtain ⟨ao4, cap4, hsh4⟩ := owns_shape ho4
  subst hsh4
  have P4 := hide (((unhide P3).alloc _).on hb4)
  have Q4 := hide ((Fb.new w3 bgF1).on hb4)
  have I4 := hide (Ints.of_owns ho4)
  have HB4 := hide (bstep (bstep (unhide HB3) (balloc _ _)) hb4)
  clear ho4 hb4 S4 HB3 P3
  go_wp2_with fail
  refine (unhide S5 _ ((unhide HM).below (bstep (unhide HB4) (balloc w4 (.cells #[.string ⟨#[117, 116, 102, 45, 56]⟩, .int .i64 1, .int .i64 2, .string ⟨#[]⟩, .int .i64 1, .string ⟨#[226]⟩, .int .i64 0, .bool false, .bool false] 25))))).mono ?_
  rintro e w5 ⟨v5, rfl, ho5, hb5⟩
  obtain ⟨ao5, cap5, hsh5⟩ := owns_shape ho5
  subst hsh5
  have P5 := hide (((unhide P4).alloc _).on hb5)
  have Q5 := hide (((unhide Q4).alloc _).on hb5)
  have R5 := hide ((Fb.new w4 bgF2).on hb5)
  have I5 := hide (((unhide I4).below (balloc _ _)).below hb5)
  have J5 := hide (Ints.of_owns ho5)
  have HB5 := hide (bstep (bstep (unhide HB4) (balloc _ _)) hb5)
  clear ho5 hb5 S5 HB4 P4 Q4 I4
  have P6 := hide ((unhide P5).alloc (.cells #[.string ⟨#[117, 116, 102, 45, 56]⟩, .int .i64 0, .int .i64 0, .string ⟨#[]⟩, .int .i64 0, .string ⟨#[]⟩, .int .i64 0, .bool false, .bool false] 25))
  have Q6 := hide ((unhide Q5).alloc (.cells #[.string ⟨#[117, 116, 102, 45, 56]⟩, .int .i64 0, .int .i64 0, .string ⟨#[]⟩, .int .i64 0, .string ⟨#[]⟩, .int .i64 0, .bool false, .bool false] 25))
  have R6 := hide ((unhide R5).alloc (.cells #[.string ⟨#[117, 116, 102, 45, 56]⟩, .int .i64 0, .int .i64 0, .string ⟨#[]⟩, .int .i64 0, .string ⟨#[]⟩, .int .i64 0, .bool false, .bool false] 25))
  have T6 := hide (Fb.new w5 (Fr.new u8N))
  have I6 := hide ((unhide I5).below (balloc _ (.cells #[.string ⟨#[117, 116, 102, 45, 56]⟩, .int .i64 0, .int .i64 0, .string ⟨#[]⟩, .int .i64 0, .string ⟨#[]⟩, .int .i64 0, .bool false, .bool false] 25)))
  have J6 := hide ((unhide J5).below (balloc _ (.cells #[.string ⟨#[117, 116, 102, 45, 56]⟩, .int .i64 0, .int .i64 0, .string ⟨#[]⟩, .int .i64 0, .string ⟨#[]⟩, .int .i64 0, .bool false, .bool false] 25)))
  have HB6 := hide (bstep (unhide HB5) (balloc _ (.cells #[.string ⟨#[117, 116, 102, 45, 56]⟩, .int .i64 0, .int .i64 0, .string ⟨#[]⟩, .int .i64 0, .string ⟨#[]⟩, .int .i64 0, .bool false, .bool false] 25)))
  clear P5 Q5 R5 I5 J5 HB5
  obtain ⟨q0, q1, q2, q3, q4, q5, q6, q7, q8, -, -, -, -, -, -, -, -, -⟩ := unhide Q6
  have hlq := (unhide Q6).lt
  dsimp only [bgF1] at q0 q1 q2 q3 q4 q5 q6 q7 q8
  simp only [World.size_alloc] at hlq
  have K6 := hide (three_ints (w5.alloc (.cells #[.string ⟨#[117, 116, 102, 45, 56]⟩, .int .i64 0, .int .i64 0, .string ⟨#[]⟩, .int .i64 0, .string ⟨#[]⟩, .int .i64 0, .bool false, .bool false] 25)) 97 98 99)
  rw [World.size_alloc] at K6
  go_wp2_with fail
  refine (same_any _ ((unhide I6).below (balloc _ _)) (unhide K6)).mono ?_
  rintro e w7 ⟨rfl, hb7⟩
  rw [show (([97, 98, 99] : List Int) == [97, 98, 99]) = true from rfl]
  have P7 := hide (((unhide P6).alloc _).on hb7)
  have R7 := hide (((unhide R6).alloc _).on hb7)
  have T7 := hide (((unhide T6).alloc _).on hb7)
  have J7 := hide (((unhide J6).below (balloc _ _)).below hb7)
  have HB7 := hide (bstep (bstep (unhide HB6) (balloc _ _)) hb7)
  clear hb7 P6 Q6 R6 T6 I6 J6 K6 HB6 q0 q1 q2 q3 q4 q5 q6 q7 q8 hlq
  obtain ⟨r0, r1, r2, r3, r4, r5, r6, r7, r8, -, -, -, -, -, -, -, -, -⟩ := unhide R7
  have hlr := (unhide R7).lt
  dsimp only [bgF2, u8N, M.st0] at r0 r1 r2 r3 r4 r5 r6 r7 r8
  go_wp2_with fail
  refine (same_any _ ((unhide J7).below (balloc _ _)) (one_int _ _)).mono ?_
  rintro e w8 ⟨rfl, hb8⟩
  rw [show (([65533] : List Int) == [65533]) = true from rfl]
  have P8 := hide (((unhide P7).alloc _).on hb8)
  have R8 := hide (((unhide R7).alloc _).on hb8)
  have T8 := hide (((unhide T7).alloc _).on hb8)
  have HB8 := hide (bstep (bstep (unhide HB7) (balloc _ _)) hb8)
  clear hb8 P7 R7 T7 J7 HB7 r0 r1 r2 r3 r4 r5 r6 r7 r8 hlr
  obtain ⟨r0, r1, r2, r3, r4, r5, r6, r7, r8, -, -, -, -, -, -, -, -, -⟩ := unhide R8
  obtain ⟨p0, p1, p2, p3, p4, p5, p6, p7, p8, -, -, -, -, -, -, -, -, -⟩ := unhide P8
  obtain ⟨t0, t1, t2, t3, t4, t5, t6, t7, t8, -, -, -, -, -, -, -, -, -⟩ := unhide T8
  have hlr := (unhide R8).lt
  have hlp := (unhide P8).lt
  have hlt := (unhide T8).lt
  dsimp only [bgF2, Fr.new, u8N, M.st0] at r0 r1 r2 r3 r4 r5 r6 r7 r8 p0 p1 p2 p3 p4 p5 p6 p7 p8 t0 t1 t2 t3 t4 t5 t6 t7 t8
  go_wp2_with fail
  refine (unhide S6 _ ((unhide HM).below (unhide HB8))).mono ?_
  rintro e w9 ⟨rfl, hb9⟩
  have HB9 := hide (bstep (unhide HB8) hb9)
  clear hb9 S6
  go_wp2_with fail
  go_ret
  exact ⟨rfl, unhide HB9⟩
end Go.Proofs.YtaiinjfnkmidbaaGreatDoor

namespace Go.Proofs.YtaiinjfnkmidbaaGreatDoor
open Go.RowKit
set_option linter.unusedVariables false

end Go.Proofs.YtaiinjfnkmidbaaGreatDoor

namespace Go.Proofs.YtaiinjfnkmidbaaGreatDoor
open Go.RowKit
set_option linter.unusedVariables false

end Go.Proofs.YtaiinjfnkmidbaaGreatDoor

namespace Go.Proofs.YtaiinjfnkmidbaaGreatDoor
open Go.RowKit
set_option linter.unusedVariables false

end Go.Proofs.YtaiinjfnkmidbaaGreatDoor

namespace Go.Proofs.YtaiinjfnkmidbaaGreatDoor
open Go.RowKit
set_option linter.unusedVariables false

end Go.Proofs.YtaiinjfnkmidbaaGreatDoor

namespace Go.Proofs.YtaiinjfnkmidbaaGreatDoor
open Go.RowKit
set_option linter.unusedVariables false

end Go.Proofs.YtaiinjfnkmidbaaGreatDoor

namespace Go.Proofs.YtaiinjfnkmidbaaGreatDoor
open Go.RowKit
set_option linter.unusedVariables false

end Go.Proofs.YtaiinjfnkmidbaaGreatDoor

namespace Go.Proofs.YtaiinjfnkmidbaaGreatDoor
open Go.RowKit
set_option linter.unusedVariables false

end Go.Proofs.YtaiinjfnkmidbaaGreatDoor

namespace Go.Proofs.YtaiinjfnkmidbaaGreatDoor
open Go.RowKit
set_option linter.unusedVariables false

end Go.Proofs.YtaiinjfnkmidbaaGreatDoor

namespace Go.Proofs.YtaiinjfnkmidbaaGreatDoor
open Go.RowKit
set_option linter.unusedVariables false

end Go.Proofs.YtaiinjfnkmidbaaGreatDoor

namespace Go.Proofs.YtaiinjfnkmidbaaGreatDoor
open Go.RowKit
set_option linter.unusedVariables false

end Go.Proofs.YtaiinjfnkmidbaaGreatDoor

namespace Go.Proofs.YtaiinjfnkmidbaaGreatDoor
open Go.RowKit
set_option linter.unusedVariables false

end Go.Proofs.YtaiinjfnkmidbaaGreatDoor

namespace Go.Proofs.YtaiinjfnkmidbaaGreatDoor
open Go.RowKit

end Go.Proofs.YtaiinjfnkmidbaaGreatDoor

namespace Go.Proofs.YtaiinjfnkmidbaaGreatDoor
open Go.RowKit
set_option linter.unusedVariables false

end Go.Proofs.YtaiinjfnkmidbaaGreatDoor

namespace Go.Proofs.YtaiinjfnkmidbaaGreatDoor
open Go.RowKit
set_option linter.unusedVariables false

end Go.Proofs.YtaiinjfnkmidbaaGreatDoor

namespace Go.Proofs.YtaiinjfnkmidbaaGreatDoor
open Go.RowKit
set_option linter.unusedVariables false

set_option maxHeartbeats 800000 in
set_option maxRecDepth 100000 in
theorem enough_any (name s : ByteArray) (w : World) (hn : name.size ≤ 3000) (hs : s.size ≤ maxLen) :
    Calls Tryz.prog 105 #[.string name, .string s] w fun e w' => e = .returned (.bool (enF name (bl s))) ∧ Below w.heap.size w w' := by
  have HS := hide (fun w => Sniff_any s w hs)
  have HF := hide (fun w => Find_ok name w hn)
  have HE : Hid (enF name (bl s) = (decide ((M.sn (bl s)).1 ≠ 0) || (decide (256 ≤ s.size) || (decide (findI name ≠ 0) && decide (3 ≤ s.size))))) := hide (by unfold enF; rw [bl_len])
  generalize (M.sn (bl s)).1 = a at *
  generalize (M.sn (bl s)).2 = b at *
  generalize findI name = c at *
  generalize enF name (bl s) = q at *
  unfold maxLen at hs
  by_cases h0 : a = 0
  · subst h0
    by_cases h1 : c = 0
    · subst h1
      have HR : Hid (q = decide ((256 : Int) ≤ (s.size : Int))) := hide (by rw [unhide HE, Bool.eq_iff_iff]; simp; omega)
      clear HE
      go_enter Tryz.func105, Tryz.ntmps105
      go_wp2_with fail
      refine (unhide HS _).mono ?_
      rintro e w1 ⟨rfl, hb1⟩
      have HB1 := hide hb1
      clear hb1
      go_wp2_with fail
      refine (unhide HF _).mono ?_
      rintro e w2 ⟨rfl, hb2⟩
      have HB2 := hide (bstep (unhide HB1) hb2)
      clear hb2
      go_wp2_with fail
      go_ret
      exact ⟨ret_bool (by rw [unhide HR]), unhide HB2⟩
    · have HR : Hid (q = decide ((3 : Int) ≤ (s.size : Int))) := hide (by rw [unhide HE, Bool.eq_iff_iff]; simp [h1]; omega)
      have hne : (c != 0) = true := bne_iff_ne.2 h1
      clear HE h1
      go_enter Tryz.func105, Tryz.ntmps105
      go_wp2_with fail
      refine (unhide HS _).mono ?_
      rintro e w1 ⟨rfl, hb1⟩
      have HB1 := hide hb1
      clear hb1
      go_wp2_with fail
      refine (unhide HF _).mono ?_
      rintro e w2 ⟨rfl, hb2⟩
      have HB2 := hide (bstep (unhide HB1) hb2)
      clear hb2
      go_wp2_with fail
      go_ret
      exact ⟨ret_bool (by rw [unhide HR]), unhide HB2⟩
  · have HR : Hid (q = true) := hide (by rw [unhide HE]; simp [h0])
    have hne : (a != 0) = true := bne_iff_ne.2 h0
    clear HE h0
    go_enter Tryz.func105, Tryz.ntmps105
    go_wp2_with fail
    refine (unhide HS _).mono ?_
    rintro e w1 ⟨rfl, hb1⟩
    have HB1 := hide hb1
    clear hb1
    go_wp2_with fail
    go_ret
    exact ⟨ret_bool (unhide HR).symm, unhide HB1⟩

end Go.Proofs.YtaiinjfnkmidbaaGreatDoor

namespace Go.Proofs.YtaiinjfnkmidbaaGreatDoor
open Go.RowKit
set_option linter.unusedVariables false

/-- The error of a front, by its parts. -/
def chkF (L : ByteArray) (enc why : Int) (W : ByteArray) (e : Int) (r : ByteArray) (t : M.St) : Int := Fr.chk ⟨L, enc, why, W, e, r, t⟩
theorem size0 {r : ByteArray} (h : r.size = 0) : r = ⟨#[]⟩ := by
  have : bl r = [] := List.eq_nil_of_length_eq_zero (by rw [bl_len]; exact h)
  rw [← str_bl r, this]; rfl
theorem empty_eq (r : ByteArray) : (r.toList == []) = decide (r.size = 0) := by
  rw [← isEmpty_size]; cases r.toList <;> rfl
end Go.Proofs.YtaiinjfnkmidbaaGreatDoor

namespace Go.Proofs.YtaiinjfnkmidbaaGreatDoor
open Go.RowKit
set_option linter.unusedVariables false

set_option maxHeartbeats 400000 in
set_option maxRecDepth 100000 in
theorem fenc_yes (n : Int) (w : World) (hn : 1 ≤ n ∧ n ≤ 7) : Calls Tryz.prog 58 #[.int .i64 n] w fun e w' => e = .returned (.bool true) ∧ Below w.heap.size w w' := by
  have HO := hide (fun w => open_yes n w hn)
  unfold sv at HO
  clear hn
  go_enter Tryz.func58, Tryz.ntmps58
  go_wp2_with fail
  refine (unhide HO _).mono ?_
  rintro e w1 ⟨rfl, hb1⟩
  have HB1 := hide hb1
  clear hb1
  go_wp2_with fail
  go_ret
  exact ⟨rfl, bstep (unhide HB1) (balloc _ _)⟩
set_option maxHeartbeats 400000 in
set_option maxRecDepth 100000 in
theorem fenc_no (n : Int) (w : World) (hn : ¬ (1 ≤ n ∧ n ≤ 7)) : Calls Tryz.prog 58 #[.int .i64 n] w fun e w' => e = .returned (.bool false) ∧ Below w.heap.size w w' := by
  have HO := hide (fun w => open_no n w hn)
  unfold sv at HO
  clear hn
  go_enter Tryz.func58, Tryz.ntmps58
  go_wp2_with fail
  refine (unhide HO _).mono ?_
  rintro e w1 ⟨rfl, hb1⟩
  have HB1 := hide hb1
  clear hb1
  go_wp2_with fail
  go_ret
  exact ⟨rfl, bstep (unhide HB1) (balloc _ _)⟩
set_option maxHeartbeats 1600000 in
set_option maxRecDepth 100000 in
theorem cw_s1 (L : ByteArray) (enc why : Int) (W : ByteArray) (e : Int) (r : ByteArray) (g : Int) (fr st : Bool) (w : World) (h : ¬ (e = 0 ∧ r.size = 0 ∧ (g, fr, st) = M.st0)) :
    Calls Tryz.prog 59 #[.agg #[.string L, .int .i64 enc, .int .i64 why, .string W, .int .i64 e, .string r, .int .i64 g, .bool fr, .bool st]] w fun e' w' => e' = .returned (.int .i64 1) ∧ Below w.heap.size w w' := by
  have hre := empty_eq r
  have HH := hide h
  clear h
  go_enter Tryz.func59, Tryz.ntmps59
  go_wp2_with fail
  all_goals first
    | (go_ret; exact ⟨rfl, balloc _ _⟩)
    | (exfalso
       apply unhide HH
       have hr' : r = ByteArray.empty := by assumption
       have he' : e = 0 := by assumption
       have hg' : g = 0 := by assumption
       have hf' : ¬ fr = true := by assumption
       have hs' : ¬ st = true := by assumption
       refine ⟨he', by rw [hr']; rfl, ?_⟩
       rw [hg', show fr = false from by simpa using hf', show st = false from by simpa using hs']
       rfl)
set_option maxHeartbeats 1600000 in
set_option maxRecDepth 100000 in
theorem cw_s2 (L W : ByteArray) (w : World) (h0 : L.size ≤ 3000) (h1 : W.size ≤ 3000) :
    Calls Tryz.prog 59 #[.agg #[.string L, .int .i64 0, .int .i64 0, .string W, .int .i64 0, .string ⟨#[]⟩, .int .i64 0, .bool false, .bool false]] w fun e' w' => e' = .returned (.int .i64 (if enF L (bl W) = true then 4 else 0)) ∧ Below w.heap.size w w' := by
  have HEn := hide (fun w => enough_any L W w h0 (by unfold maxLen; omega))
  generalize enF L (bl W) = q at *
  go_enter Tryz.func59, Tryz.ntmps59
  go_wp2_with fail
  refine (unhide HEn _).mono ?_
  rintro e' w2 ⟨rfl, hb2⟩
  have HB2 := hide (bstep (balloc _ _) hb2)
  clear hb2
  cases q
  · go_wp2_with fail
    go_ret
    exact ⟨rfl, unhide HB2⟩
  · go_wp2_with fail
    go_ret
    exact ⟨rfl, unhide HB2⟩
theorem cells9 (w w1 : World) (L : ByteArray) (enc why : Int) (W : ByteArray) (e : Int) (r : ByteArray) (g : Int) (fr st : Bool) (hb : Below (w.alloc (.cells #[.string L, .int .i64 enc, .int .i64 why, .string W, .int .i64 e, .string r, .int .i64 g, .bool fr, .bool st] 25)).heap.size (w.alloc (.cells #[.string L, .int .i64 enc, .int .i64 why, .string W, .int .i64 e, .string r, .int .i64 g, .bool fr, .bool st] 25)) w1) :
    w1.cell? ⟨w.heap.size, 0, none⟩ = some (.string L) ∧ w1.cell? ⟨w.heap.size, 1, none⟩ = some (.int .i64 enc) ∧ w1.cell? ⟨w.heap.size, 2, none⟩ = some (.int .i64 why) ∧ w1.cell? ⟨w.heap.size, 3, none⟩ = some (.string W) ∧ w1.cell? ⟨w.heap.size, 4, none⟩ = some (.int .i64 e) ∧ w1.cell? ⟨w.heap.size, 5, none⟩ = some (.string r) ∧ w1.cell? ⟨w.heap.size, 6, none⟩ = some (.int .i64 g) ∧ w1.cell? ⟨w.heap.size, 7, none⟩ = some (.bool fr) ∧ w1.cell? ⟨w.heap.size, 8, none⟩ = some (.bool st) := by
  have h := (Fb.new w ⟨L, enc, why, W, e, r, (g, fr, st)⟩).on hb
  exact ⟨h.c0, h.c1, h.c2, h.c3, h.c4, h.c5, h.c6, h.c7, h.c8⟩
set_option maxHeartbeats 1600000 in
set_option maxRecDepth 100000 in
theorem ck_L (L : ByteArray) (enc why : Int) (W : ByteArray) (e : Int) (r : ByteArray) (g : Int) (fr st : Bool) (w : World) (hL : L.size ≤ maxLen) (hW : W.size ≤ maxLen) (hr : r.size ≤ maxLen) (h : 3000 < L.size) :
    Calls Tryz.prog 20 #[.agg #[.string L, .int .i64 enc, .int .i64 why, .string W, .int .i64 e, .string r, .int .i64 g, .bool fr, .bool st]] w fun e' w' => e' = .returned (.int .i64 (chkF L enc why W e r (g, fr, st))) ∧ Below w.heap.size w w' := by
  have HR : Hid (chkF L enc why W e r (g, fr, st) = 2) := hide (by
    unfold chkF Fr.chk
    simp only
    rw [if_pos (.inl h)])
  unfold maxLen at hL hW hr
  go_enter Tryz.func20, Tryz.ntmps20
  go_wp2_with fail
  go_ret
  exact ⟨ret_int (unhide HR).symm, balloc _ _⟩
set_option maxHeartbeats 1600000 in
set_option maxRecDepth 100000 in
theorem ck_W (L : ByteArray) (enc why : Int) (W : ByteArray) (e : Int) (r : ByteArray) (g : Int) (fr st : Bool) (w : World) (hL : L.size ≤ maxLen) (hW : W.size ≤ maxLen) (hr : r.size ≤ maxLen) (h0 : L.size ≤ 3000) (h : 3000 < W.size) :
    Calls Tryz.prog 20 #[.agg #[.string L, .int .i64 enc, .int .i64 why, .string W, .int .i64 e, .string r, .int .i64 g, .bool fr, .bool st]] w fun e' w' => e' = .returned (.int .i64 (chkF L enc why W e r (g, fr, st))) ∧ Below w.heap.size w w' := by
  have HR : Hid (chkF L enc why W e r (g, fr, st) = 2) := hide (by
    unfold chkF Fr.chk
    simp only
    rw [if_pos (.inr h)])
  unfold maxLen at hL hW hr
  go_enter Tryz.func20, Tryz.ntmps20
  go_wp2_with fail
  go_ret
  exact ⟨ret_int (unhide HR).symm, balloc _ _⟩
set_option maxHeartbeats 1600000 in
set_option maxRecDepth 100000 in
theorem ck_enc (L : ByteArray) (enc why : Int) (W : ByteArray) (e : Int) (r : ByteArray) (g : Int) (fr st : Bool) (w : World) (hL : L.size ≤ maxLen) (hW : W.size ≤ maxLen) (hr : r.size ≤ maxLen) (h0 : L.size ≤ 3000) (h1 : W.size ≤ 3000) (h : ¬ (0 ≤ enc ∧ enc ≤ 7)) :
    Calls Tryz.prog 20 #[.agg #[.string L, .int .i64 enc, .int .i64 why, .string W, .int .i64 e, .string r, .int .i64 g, .bool fr, .bool st]] w fun e' w' => e' = .returned (.int .i64 (chkF L enc why W e r (g, fr, st))) ∧ Below w.heap.size w w' := by
  have HR : Hid (chkF L enc why W e r (g, fr, st) = 6) := hide (by
    unfold chkF Fr.chk
    simp only
    rw [if_neg (by omega), if_pos h])
  unfold maxLen at hL hW hr
  have hee : (enc != 0) = true := bne_iff_ne.2 (by omega)
  have HIe := hide (fun w => fenc_no enc w (by omega))
  clear h
  go_enter Tryz.func20, Tryz.ntmps20
  go_wp2_with fail
  refine (unhide HIe _).mono ?_
  rintro e' w1 ⟨rfl, hb1⟩
  have HB1 := hide (bstep (balloc _ _) hb1)
  obtain ⟨a0, a1, a2, a3, a4, a5, a6, a7, a8⟩ := cells9 w w1 L _ _ W _ r _ _ _ hb1
  have hlt : w.heap.size < w1.heap.size := by have := hb1.size; simp at this; omega
  clear hb1
  go_wp2_with fail
  go_ret
  exact ⟨ret_int (unhide HR).symm, unhide HB1⟩
set_option maxHeartbeats 1600000 in
set_option maxRecDepth 100000 in
theorem ck_whyz (L : ByteArray) (enc why : Int) (W : ByteArray) (e : Int) (r : ByteArray) (g : Int) (fr st : Bool) (w : World) (hL : L.size ≤ maxLen) (hW : W.size ≤ maxLen) (hr : r.size ≤ maxLen) (h0 : L.size ≤ 3000) (h1 : W.size ≤ 3000) (h2 : 0 ≤ enc ∧ enc ≤ 7) (h : ¬ (0 ≤ why ∧ why ≤ 4)) (h3 : enc = 0) :
    Calls Tryz.prog 20 #[.agg #[.string L, .int .i64 enc, .int .i64 why, .string W, .int .i64 e, .string r, .int .i64 g, .bool fr, .bool st]] w fun e' w' => e' = .returned (.int .i64 (chkF L enc why W e r (g, fr, st))) ∧ Below w.heap.size w w' := by
  have HR : Hid (chkF L enc why W e r (g, fr, st) = 4) := hide (by
    unfold chkF Fr.chk
    simp only
    rw [if_neg (by omega), if_neg (fun q => q h2), if_pos (.inl h)])
  unfold maxLen at hL hW hr
  subst h3
  have hwd : (decide (why < 0) || decide (4 < why)) = true := by simp; omega
  go_enter Tryz.func20, Tryz.ntmps20
  go_wp2_with fail
  all_goals first
    | (go_ret; exact ⟨ret_int (unhide HR).symm, balloc _ _⟩)
    | (exfalso; omega)
    | (exfalso; simp_all; omega)
set_option maxHeartbeats 1600000 in
set_option maxRecDepth 100000 in
theorem ck_whye (L : ByteArray) (enc why : Int) (W : ByteArray) (e : Int) (r : ByteArray) (g : Int) (fr st : Bool) (w : World) (hL : L.size ≤ maxLen) (hW : W.size ≤ maxLen) (hr : r.size ≤ maxLen) (h0 : L.size ≤ 3000) (h1 : W.size ≤ 3000) (h2 : 0 ≤ enc ∧ enc ≤ 7) (h : ¬ (0 ≤ why ∧ why ≤ 4)) (h3 : enc ≠ 0) :
    Calls Tryz.prog 20 #[.agg #[.string L, .int .i64 enc, .int .i64 why, .string W, .int .i64 e, .string r, .int .i64 g, .bool fr, .bool st]] w fun e' w' => e' = .returned (.int .i64 (chkF L enc why W e r (g, fr, st))) ∧ Below w.heap.size w w' := by
  have HR : Hid (chkF L enc why W e r (g, fr, st) = 4) := hide (by
    unfold chkF Fr.chk
    simp only
    rw [if_neg (by omega), if_neg (fun q => q h2), if_pos (.inl h)])
  unfold maxLen at hL hW hr
  have hee : (enc != 0) = true := bne_iff_ne.2 (by omega)
  have HIe := hide (fun w => fenc_yes enc w (by omega))
  have hwd : (decide (why < 0) || decide (4 < why)) = true := by simp; omega
  go_enter Tryz.func20, Tryz.ntmps20
  go_wp2_with fail
  refine (unhide HIe _).mono ?_
  rintro e' w1 ⟨rfl, hb1⟩
  have HB1 := hide (bstep (balloc _ _) hb1)
  obtain ⟨a0, a1, a2, a3, a4, a5, a6, a7, a8⟩ := cells9 w w1 L _ _ W _ r _ _ _ hb1
  have hlt : w.heap.size < w1.heap.size := by have := hb1.size; simp at this; omega
  clear hb1
  go_wp2_with fail
  all_goals first
    | (go_ret; exact ⟨ret_int (unhide HR).symm, unhide HB1⟩)
    | (exfalso; omega)
    | (exfalso; simp_all; omega)
set_option maxHeartbeats 1600000 in
set_option maxRecDepth 100000 in
theorem ck_w0 (L : ByteArray) (enc why : Int) (W : ByteArray) (e : Int) (r : ByteArray) (g : Int) (fr st : Bool) (w : World) (hL : L.size ≤ maxLen) (hW : W.size ≤ maxLen) (hr : r.size ≤ maxLen) (h0 : L.size ≤ 3000) (h1 : W.size ≤ 3000) (h2 : 0 ≤ enc ∧ enc ≤ 7) (h3 : why = 0) (h : enc ≠ 0) :
    Calls Tryz.prog 20 #[.agg #[.string L, .int .i64 enc, .int .i64 why, .string W, .int .i64 e, .string r, .int .i64 g, .bool fr, .bool st]] w fun e' w' => e' = .returned (.int .i64 (chkF L enc why W e r (g, fr, st))) ∧ Below w.heap.size w w' := by
  have HR : Hid (chkF L enc why W e r (g, fr, st) = 4) := hide (by
    unfold chkF Fr.chk
    simp only
    rw [if_neg (by omega), if_neg (fun q => q h2), if_pos (.inr (.inl ⟨h3, h⟩))])
  unfold maxLen at hL hW hr
  have hee : (enc != 0) = true := bne_iff_ne.2 (by omega)
  have HIe := hide (fun w => fenc_yes enc w (by omega))
  subst h3
  clear h h2
  go_enter Tryz.func20, Tryz.ntmps20
  go_wp2_with fail
  refine (unhide HIe _).mono ?_
  rintro e' w1 ⟨rfl, hb1⟩
  have HB1 := hide (bstep (balloc _ _) hb1)
  obtain ⟨a0, a1, a2, a3, a4, a5, a6, a7, a8⟩ := cells9 w w1 L _ _ W _ r _ _ _ hb1
  have hlt : w.heap.size < w1.heap.size := by have := hb1.size; simp at this; omega
  clear hb1
  go_wp2_with fail
  go_ret
  exact ⟨ret_int (unhide HR).symm, unhide HB1⟩
set_option maxHeartbeats 1600000 in
set_option maxRecDepth 100000 in
theorem ck_w1 (L : ByteArray) (enc why : Int) (W : ByteArray) (e : Int) (r : ByteArray) (g : Int) (fr st : Bool) (w : World) (hL : L.size ≤ maxLen) (hW : W.size ≤ maxLen) (hr : r.size ≤ maxLen) (h0 : L.size ≤ 3000) (h1 : W.size ≤ 3000) (h2 : 0 ≤ enc ∧ enc ≤ 7) (hy : 0 ≤ why ∧ why ≤ 4) (h3 : why ≠ 0) (h : enc = 0) :
    Calls Tryz.prog 20 #[.agg #[.string L, .int .i64 enc, .int .i64 why, .string W, .int .i64 e, .string r, .int .i64 g, .bool fr, .bool st]] w fun e' w' => e' = .returned (.int .i64 (chkF L enc why W e r (g, fr, st))) ∧ Below w.heap.size w w' := by
  have HR : Hid (chkF L enc why W e r (g, fr, st) = 4) := hide (by
    unfold chkF Fr.chk
    simp only
    rw [if_neg (by omega), if_neg (fun q => q h2), if_pos (.inr (.inr ⟨h3, h⟩))])
  unfold maxLen at hL hW hr
  have hne : (why != 0) = true := bne_iff_ne.2 h3
  have hw1 : decide (why < 0) = false := decide_eq_false (by omega)
  have hw2 : decide (4 < why) = false := decide_eq_false (by omega)
  subst h
  clear h2 h3
  go_enter Tryz.func20, Tryz.ntmps20
  go_wp2_with fail
  go_ret
  exact ⟨ret_int (unhide HR).symm, balloc _ _⟩
set_option maxHeartbeats 1600000 in
set_option maxRecDepth 100000 in
theorem ck_s1 (L : ByteArray) (enc why : Int) (W : ByteArray) (e : Int) (r : ByteArray) (g : Int) (fr st : Bool) (w : World) (hL : L.size ≤ maxLen) (hW : W.size ≤ maxLen) (hr : r.size ≤ maxLen) (h0 : L.size ≤ 3000) (h1 : W.size ≤ 3000) (h3 : why = 0) (h4 : enc = 0) (h : ¬ (e = 0 ∧ r.size = 0 ∧ (g, fr, st) = M.st0)) :
    Calls Tryz.prog 20 #[.agg #[.string L, .int .i64 enc, .int .i64 why, .string W, .int .i64 e, .string r, .int .i64 g, .bool fr, .bool st]] w fun e' w' => e' = .returned (.int .i64 (chkF L enc why W e r (g, fr, st))) ∧ Below w.heap.size w w' := by
  have HR : Hid (chkF L enc why W e r (g, fr, st) = 1) := hide (by
    unfold chkF Fr.chk
    simp only
    rw [if_neg (by omega), if_neg (by omega), if_neg (by omega), if_pos (.inl ⟨h3, h⟩)])
  unfold maxLen at hL hW hr
  subst h3 h4
  have HCw := hide (fun w => cw_s1 L 0 0 W e r g fr st w h)
  clear h
  go_enter Tryz.func20, Tryz.ntmps20
  go_wp2_with fail
  refine (unhide HCw _).mono ?_
  rintro e' w1 ⟨rfl, hb1⟩
  have HB1 := hide (bstep (balloc _ _) hb1)
  clear hb1
  go_wp2_with fail
  go_ret
  exact ⟨ret_int (unhide HR).symm, unhide HB1⟩
set_option maxHeartbeats 1600000 in
set_option maxRecDepth 100000 in
theorem ck_s2 (L W : ByteArray) (w : World) (h0 : L.size ≤ 3000) (h1 : W.size ≤ 3000) :
    Calls Tryz.prog 20 #[.agg #[.string L, .int .i64 0, .int .i64 0, .string W, .int .i64 0, .string ⟨#[]⟩, .int .i64 0, .bool false, .bool false]] w fun e' w' => e' = .returned (.int .i64 (chkF L 0 0 W 0 ⟨#[]⟩ M.st0)) ∧ Below w.heap.size w w' := by
  have z : (⟨#[]⟩ : ByteArray).size = 0 := rfl
  have HR : Hid (chkF L 0 0 W 0 ⟨#[]⟩ M.st0 = if enF L (bl W) = true then 4 else 0) := hide (by
    unfold chkF Fr.chk
    simp only
    rw [if_neg (by omega), if_neg (by omega), if_neg (by omega), if_neg (by rw [z]; rintro (h | h); exact h.2 ⟨by trivial, by trivial, by trivial⟩; exact h.1 (by trivial))]
    rfl)
  have HCw := hide (fun w => cw_s2 L W w h0 h1)
  rw [← unhide HR] at HCw
  generalize chkF L 0 0 W 0 ⟨#[]⟩ M.st0 = K at *
  clear z HR
  go_enter Tryz.func20, Tryz.ntmps20
  go_wp2_with fail
  refine (unhide HCw _).mono ?_
  rintro e' w2 ⟨rfl, hb2⟩
  have HB2 := hide (bstep (balloc _ _) hb2)
  clear hb2
  go_wp2_with fail
  go_ret
  exact ⟨rfl, unhide HB2⟩
set_option maxHeartbeats 1600000 in
set_option maxRecDepth 100000 in
theorem ck_n1 (L : ByteArray) (enc why : Int) (W : ByteArray) (e : Int) (r : ByteArray) (g : Int) (fr st : Bool) (w : World) (hL : L.size ≤ maxLen) (hW : W.size ≤ maxLen) (hr : r.size ≤ maxLen) (h0 : L.size ≤ 3000) (h1 : W.size ≤ 3000) (h2 : 0 ≤ enc ∧ enc ≤ 7) (hy : 0 ≤ why ∧ why ≤ 4) (h3 : why ≠ 0) (h4 : enc ≠ 0) (h : W.size ≠ 0) :
    Calls Tryz.prog 20 #[.agg #[.string L, .int .i64 enc, .int .i64 why, .string W, .int .i64 e, .string r, .int .i64 g, .bool fr, .bool st]] w fun e' w' => e' = .returned (.int .i64 (chkF L enc why W e r (g, fr, st))) ∧ Below w.heap.size w w' := by
  have HR : Hid (chkF L enc why W e r (g, fr, st) = 1) := hide (by
    unfold chkF Fr.chk
    simp only
    rw [if_neg (by omega), if_neg (by omega), if_neg (by omega), if_pos (.inr ⟨h3, .inl h⟩)])
  unfold maxLen at hL hW hr
  have hee : (enc != 0) = true := bne_iff_ne.2 (by omega)
  have HIe := hide (fun w => fenc_yes enc w (by omega))
  have hne : (why != 0) = true := bne_iff_ne.2 h3
  have hw1 : decide (why < 0) = false := decide_eq_false (by omega)
  have hw2 : decide (4 < why) = false := decide_eq_false (by omega)
  have hwe := empty_eq W
  rw [decide_eq_false h] at hwe
  clear h2 h3 h4 h
  go_enter Tryz.func20, Tryz.ntmps20
  go_wp2_with fail
  refine (unhide HIe _).mono ?_
  rintro e' w1 ⟨rfl, hb1⟩
  have HB1 := hide (bstep (balloc _ _) hb1)
  obtain ⟨a0, a1, a2, a3, a4, a5, a6, a7, a8⟩ := cells9 w w1 L _ _ W _ r _ _ _ hb1
  have hlt : w.heap.size < w1.heap.size := by have := hb1.size; simp at this; omega
  clear hb1
  go_wp2_with fail
  go_ret
  exact ⟨ret_int (unhide HR).symm, unhide HB1⟩
set_option maxHeartbeats 1600000 in
set_option maxRecDepth 100000 in
theorem ck_n2 (L : ByteArray) (enc why : Int) (W : ByteArray) (e : Int) (r : ByteArray) (g : Int) (fr st : Bool) (w : World) (hL : L.size ≤ maxLen) (hW : W.size ≤ maxLen) (hr : r.size ≤ maxLen) (h0 : L.size ≤ 3000) (h1 : W.size ≤ 3000) (h2 : 0 ≤ enc ∧ enc ≤ 7) (hy : 0 ≤ why ∧ why ≤ 4) (h3 : why ≠ 0) (h4 : enc ≠ 0) (h5 : W.size = 0) (h : e ≠ enc) :
    Calls Tryz.prog 20 #[.agg #[.string L, .int .i64 enc, .int .i64 why, .string W, .int .i64 e, .string r, .int .i64 g, .bool fr, .bool st]] w fun e' w' => e' = .returned (.int .i64 (chkF L enc why W e r (g, fr, st))) ∧ Below w.heap.size w w' := by
  have HR : Hid (chkF L enc why W e r (g, fr, st) = 1) := hide (by
    unfold chkF Fr.chk
    simp only
    rw [if_neg (by omega), if_neg (by omega), if_neg (by omega), if_pos (.inr ⟨h3, .inr h⟩)])
  unfold maxLen at hL hW hr
  have hee : (enc != 0) = true := bne_iff_ne.2 (by omega)
  have HIe := hide (fun w => fenc_yes enc w (by omega))
  have hne : (why != 0) = true := bne_iff_ne.2 h3
  have hw1 : decide (why < 0) = false := decide_eq_false (by omega)
  have hw2 : decide (4 < why) = false := decide_eq_false (by omega)
  have hwe := empty_eq W
  rw [decide_eq_true h5] at hwe
  have hen : (e != enc) = true := bne_iff_ne.2 h
  clear h2 h3 h4 h
  go_enter Tryz.func20, Tryz.ntmps20
  go_wp2_with fail
  refine (unhide HIe _).mono ?_
  rintro e' w1 ⟨rfl, hb1⟩
  have HB1 := hide (bstep (balloc _ _) hb1)
  obtain ⟨a0, a1, a2, a3, a4, a5, a6, a7, a8⟩ := cells9 w w1 L _ _ W _ r _ _ _ hb1
  have hlt : w.heap.size < w1.heap.size := by have := hb1.size; simp at this; omega
  clear hb1
  go_wp2_with fail
  go_ret
  exact ⟨ret_int (unhide HR).symm, unhide HB1⟩
set_option maxHeartbeats 1600000 in
set_option maxRecDepth 100000 in
theorem ck_n3 (L : ByteArray) (enc why : Int) (W : ByteArray) (e : Int) (r : ByteArray) (g : Int) (fr st : Bool) (w : World) (hL : L.size ≤ maxLen) (hW : W.size ≤ maxLen) (hr : r.size ≤ maxLen) (h0 : L.size ≤ 3000) (h1 : W.size ≤ 3000) (h2 : 0 ≤ enc ∧ enc ≤ 7) (hy : 0 ≤ why ∧ why ≤ 4) (h3 : why ≠ 0) (h4 : enc ≠ 0) (h5 : W.size = 0) (h : e = enc) :
    Calls Tryz.prog 20 #[.agg #[.string L, .int .i64 enc, .int .i64 why, .string W, .int .i64 e, .string r, .int .i64 g, .bool fr, .bool st]] w fun e' w' => e' = .returned (.int .i64 (chkF L enc why W e r (g, fr, st))) ∧ Below w.heap.size w w' := by
  have HR : Hid (chkF L enc why W e r (g, fr, st) = chk e r (g, fr, st)) := hide (by
    unfold chkF Fr.chk
    simp only
    rw [if_neg (by omega), if_neg (by omega), if_neg (by omega), if_neg (by rintro (q | q); exact h3 q.1; exact q.2.elim (fun z => z h5) (fun z => z h)), if_neg h3])
  have HC := hide (fun w => check_any e r (g, fr, st) w hr)
  unfold sv at HC
  simp only at HC
  rw [← unhide HR] at HC
  generalize chkF L enc why W e r (g, fr, st) = K at *
  unfold maxLen at hL hW hr
  have hee : (enc != 0) = true := bne_iff_ne.2 (by omega)
  have HIe := hide (fun w => fenc_yes enc w (by omega))
  have hne : (why != 0) = true := bne_iff_ne.2 h3
  have hw1 : decide (why < 0) = false := decide_eq_false (by omega)
  have hw2 : decide (4 < why) = false := decide_eq_false (by omega)
  have hwe := empty_eq W
  rw [decide_eq_true h5] at hwe
  have hen : (e != enc) = false := by rw [h]; simp
  clear h2 h3 h4 h
  go_enter Tryz.func20, Tryz.ntmps20
  go_wp2_with fail
  refine (unhide HIe _).mono ?_
  rintro e' w1 ⟨rfl, hb1⟩
  have HB1 := hide (bstep (balloc _ _) hb1)
  obtain ⟨a0, a1, a2, a3, a4, a5, a6, a7, a8⟩ := cells9 w w1 L _ _ W _ r _ _ _ hb1
  have hlt : w.heap.size < w1.heap.size := by have := hb1.size; simp at this; omega
  clear hb1
  go_wp2_with fail
  refine (unhide HC _).mono ?_
  rintro e' w2 ⟨rfl, hb2⟩
  have HB2 := hide (bstep (unhide HB1) hb2)
  clear hb2
  go_wp2_with fail
  go_ret
  exact ⟨rfl, unhide HB2⟩
theorem ckSays : CkSays := by
  intro f w hL hW hr hM
  obtain ⟨L, enc, why, W, e, r, g, fr, st⟩ := f
  show Calls Tryz.prog 20 #[.agg #[.string L, .int .i64 enc, .int .i64 why, .string W, .int .i64 e, .string r, .int .i64 g, .bool fr, .bool st]] w fun e' w' => e' = .returned (.int .i64 (chkF L enc why W e r (g, fr, st))) ∧ Below w.heap.size w w'
  simp only at hL hW hr
  by_cases h0 : 3000 < L.size
  · exact ck_L L enc why W e r g fr st w hL hW hr h0
  by_cases h1 : 3000 < W.size
  · exact ck_W L enc why W e r g fr st w hL hW hr (by omega) h1
  by_cases h2 : 0 ≤ enc ∧ enc ≤ 7
  case neg => exact ck_enc L enc why W e r g fr st w hL hW hr (by omega) (by omega) h2
  by_cases hy : 0 ≤ why ∧ why ≤ 4
  case neg =>
    by_cases h4 : enc = 0
    · exact ck_whyz L enc why W e r g fr st w hL hW hr (by omega) (by omega) h2 hy h4
    · exact ck_whye L enc why W e r g fr st w hL hW hr (by omega) (by omega) h2 hy h4
  by_cases h3 : why = 0
  · by_cases h4 : enc = 0
    case neg => exact ck_w0 L enc why W e r g fr st w hL hW hr (by omega) (by omega) h2 h3 h4
    by_cases h5 : e = 0 ∧ r.size = 0 ∧ (g, fr, st) = M.st0
    case neg => exact ck_s1 L enc why W e r g fr st w hL hW hr (by omega) (by omega) h3 h4 h5
    obtain ⟨rfl, hr0, ht⟩ := h5
    have := size0 hr0
    subst this h3 h4
    obtain ⟨rfl, rfl, rfl⟩ : g = 0 ∧ fr = false ∧ st = false := by simpa [M.st0] using ht
    exact ck_s2 L W w (by omega) (by omega)
  · by_cases h4 : enc = 0
    · exact ck_w1 L enc why W e r g fr st w hL hW hr (by omega) (by omega) h2 hy h3 h4
    by_cases h5 : W.size = 0
    case neg => exact ck_n1 L enc why W e r g fr st w hL hW hr (by omega) (by omega) h2 hy h3 h4 h5
    by_cases h6 : e = enc
    case neg => exact ck_n2 L enc why W e r g fr st w hL hW hr (by omega) (by omega) h2 hy h3 h4 h5 h6
    exact ck_n3 L enc why W e r g fr st w hL hW hr (by omega) (by omega) h2 hy h3 h4 h5 h6
end Go.Proofs.YtaiinjfnkmidbaaGreatDoor

namespace Go.Proofs.YtaiinjfnkmidbaaGreatDoor
open Go.RowKit
set_option linter.unusedVariables false

set_option maxHeartbeats 800000 in
set_option maxRecDepth 100000 in
theorem bgSays : BgSays := by
  intro L w hL
  have HC := hide (fun w => clone_any L w (by omega))
  go_enter Tryz.func13, Tryz.ntmps13
  go_wp2_with fail
  refine (unhide HC _).mono ?_
  rintro e w1 ⟨rfl, hb1⟩
  have hF := (Fb.new w (Fr.new ⟨#[]⟩)).on hb1
  have HF := hide hF
  obtain ⟨c0, c1, c2, c3, c4, c5, c6, c7, c8, f0, f1, f2, f3, f4, f5, f6, f7, f8⟩ := hF
  dsimp only [Fr.new, M.st0] at c0 c1 c2 c3 c4 c5 c6 c7 c8
  have hlt := (unhide HF).lt
  have HB := hide (bstep (balloc w (.cells #[.string ⟨#[]⟩, .int .i64 0, .int .i64 0, .string ⟨#[]⟩, .int .i64 0, .string ⟨#[]⟩, .int .i64 0, .bool false, .bool false] 25)) hb1)
  clear hb1
  go_wp2_with fail
  refine bodyPost_ret (v := .tuple #[(Fr.new L).v, .int .i64 0]) (by simp [results, Tryz.results13, go_sem, c0, c1, c2, c3, c4, c5, c6, c7, c8, Fr.v, Fr.new, M.st0]) rfl ⟨rfl, ?_⟩
  exact bput9 (B := w.heap.size) (unhide HB) (Nat.le_refl _) (Fr.new L)

set_option maxHeartbeats 800000 in
set_option maxRecDepth 100000 in
theorem bgErrs : BgErrs := by
  intro L w hm hL
  unfold maxLen at hm
  go_enter Tryz.func13, Tryz.ntmps13
  go_wp2_with fail
  refine bodyPost_ret (v := .tuple #[(Fr.new ⟨#[]⟩).v, .int .i64 2]) (by simp [results, Tryz.results13, go_sem, Fr.v, Fr.new, M.st0]) rfl ⟨rfl, ?_⟩
  first | exact balloc _ _ | exact bput9 (B := w.heap.size) (balloc _ _) (Nat.le_refl _) (Fr.new ⟨#[]⟩)
end Go.Proofs.YtaiinjfnkmidbaaGreatDoor

namespace Go.Proofs.YtaiinjfnkmidbaaGreatDoor
open Go.RowKit
set_option linter.unusedVariables false

theorem Fb.c9set {B : Nat} {f : Fr} {w : World} (h : Fb B f w) (u : Value) : Fb B f (w.setCell ⟨B, 9, none⟩ u) where
  c0 := (World.cell?_setCell_other _ _ _ _ (by simp)).trans h.c0
  c1 := (World.cell?_setCell_other _ _ _ _ (by simp)).trans h.c1
  c2 := (World.cell?_setCell_other _ _ _ _ (by simp)).trans h.c2
  c3 := (World.cell?_setCell_other _ _ _ _ (by simp)).trans h.c3
  c4 := (World.cell?_setCell_other _ _ _ _ (by simp)).trans h.c4
  c5 := (World.cell?_setCell_other _ _ _ _ (by simp)).trans h.c5
  c6 := (World.cell?_setCell_other _ _ _ _ (by simp)).trans h.c6
  c7 := (World.cell?_setCell_other _ _ _ _ (by simp)).trans h.c7
  c8 := (World.cell?_setCell_other _ _ _ _ (by simp)).trans h.c8
  f0 := by rw [World.frozen?_setCell]; exact h.f0
  f1 := by rw [World.frozen?_setCell]; exact h.f1
  f2 := by rw [World.frozen?_setCell]; exact h.f2
  f3 := by rw [World.frozen?_setCell]; exact h.f3
  f4 := by rw [World.frozen?_setCell]; exact h.f4
  f5 := by rw [World.frozen?_setCell]; exact h.f5
  f6 := by rw [World.frozen?_setCell]; exact h.f6
  f7 := by rw [World.frozen?_setCell]; exact h.f7
  f8 := by rw [World.frozen?_setCell]; exact h.f8
/-- Who chooses, in memory: the front, and what has been told. -/
def Ch (C : Nat) (f : Fr) (xs : List Int) (w : World) : Prop :=
  ∃ v, Fb C f w ∧ w.cell? ⟨C, 9, none⟩ = some v ∧ w.frozen? ⟨C, 9, none⟩ = false ∧ w.ownsRow (C + 1) 3 1 v xs.length (xs.map (Value.int .i64))
/-- What is told of bytes p by a decoder. -/
def Tel (e : Int) (r : ByteArray) (t : M.St) (l : List Int) (last : Bool) (L : List Int) (r' : ByteArray) (t' : M.St) : Prop :=
  (last = false → L = (M.RE e t l).1 ∧ bl r' = (M.RE e t l).2.2 ∧ t' = (M.RE e t l).2.1) ∧ (last = true → L = (M.TE e t l).1 ∧ r' = ⟨#[]⟩ ∧ t' = M.st0)
theorem Tel.len {e : Int} (he : 1 ≤ e ∧ e ≤ 7) {r r' : ByteArray} {t t' : M.St} {l L : List Int} {last : Bool} (h : Tel e r t l last L r' t') : L.length ≤ l.length := by
  cases last
  · rw [(h.1 rfl).1]; exact M.RE_out he t l
  · rw [(h.2 rfl).1]; exact M.TE_few e _ t l (Nat.le_refl _)
theorem feed_fed (e : Int) (r : ByteArray) (t : M.St) (p : ByteArray) (last : Bool) (w : World) (he : 1 ≤ e ∧ e ≤ 7) (hr : M.wE e (bl r) = r.size ∧ r.size ≤ 3) (hk : M.Ok e t) (hs : p.size ≤ 3000) :
    Calls Tryz.prog 46 #[.agg #[.int .i64 e, .string r, .int .i64 t.1, .bool t.2.1, .bool t.2.2], .string p, .bool last] w fun e' w' => ∃ v r' t' L, e' = .returned (.tuple #[v, .agg #[.int .i64 e, .string r', .int .i64 t'.1, .bool t'.2.1, .bool t'.2.2], .int .i64 0]) ∧ w'.ownsRow w.heap.size 3 1 v L.length (L.map (Value.int .i64)) ∧ Below w.heap.size w w' ∧ Tel e r t (bl r ++ bl p) last L r' t' := by
  have h : Calls Tryz.prog 46 #[sv e r t, .string p, .bool last] w (Fed e r t p last w) := by
    cases last
    · exact feed_more e r t p w he hr hk hs
    · exact feed_last e r t p w he hr hk hs
  refine Calls.mono h fun e' w' hh => ?_
  obtain ⟨v, r', t', L, h1, h2, h3, h4, h5⟩ := hh
  exact ⟨v, r', t', L, h1, h2, h3, h4, h5⟩

set_option maxHeartbeats 1600000 in
set_option maxRecDepth 100000 in
theorem cfeed_any (C : Nat) (f : Fr) (xs : List Int) (p : ByteArray) (last : Bool) (w : World) (he : 1 ≤ f.e ∧ f.e ≤ 7) (hr : M.wE f.e (bl f.r) = f.r.size ∧ f.r.size ≤ 3) (hk : M.Ok f.e f.t) (hp : p.size ≤ 3000) (hx : xs.length ≤ 10000) (hD : Ch C f xs w) :
    Calls Tryz.prog 169 #[.pointer (some ⟨C, 0, none⟩), .string p, .bool last] w fun e' w' => e' = .returned (.tuple #[]) ∧ ∃ r' t' L, Ch C { f with r := r', t := t' } (xs ++ L) w' ∧ Below C w w' ∧ Tel f.e f.r f.t (bl f.r ++ bl p) last L r' t' := by
  obtain ⟨L0, enc, why, W, e, r, t⟩ := f
  dsimp only at *
  have HF := hide (fun w => feed_fed e r t p last w he hr hk hp)
  have hlen : (bl r ++ bl p).length ≤ 3003 := by rw [List.length_append, bl_len, bl_len]; omega
  have HLn := hide (fun (L : List Int) (r' : ByteArray) (t' : M.St) (h : Tel e r t (bl r ++ bl p) last L r' t') => Nat.le_trans (h.len he) hlen)
  obtain ⟨v, hFb, h9, g9, hO⟩ := hD
  have HFb := hide hFb
  have hC := hFb.lt
  obtain ⟨c0, c1, c2, c3, c4, c5, c6, c7, c8, f0, f1, f2, f3, f4, f5, f6, f7, f8⟩ := hFb
  dsimp only at c0 c1 c2 c3 c4 c5 c6 c7 c8
  obtain ⟨av, cv, hsv⟩ := owns_shape hO
  subst hsv
  have HO := hide hO
  clear hr hk hp hO hlen
  go_enter Tryz.func169, Tryz.ntmps169
  go_wp2_with fail
  refine (unhide HF _).mono ?_
  rintro e' w1 ⟨v1, r1, t1, L, rfl, ho1, hb1, hT⟩
  obtain ⟨a1, k1, hs1⟩ := owns_shape ho1
  subst hs1
  have hLl := unhide HLn L r1 t1 hT
  have HT := hide hT
  have hz1 := hb1.size
  have I1 := hide ((Ints.of_owns ho1).below (balloc w1 (.cells #[.int .i64 e, .string r1, .int .i64 t1.1, .bool t1.2.1, .bool t1.2.2] 23)))
  have HFb1 := hide (((unhide HFb).on hb1).alloc (.cells #[.int .i64 e, .string r1, .int .i64 t1.1, .bool t1.2.1, .bool t1.2.2] 23))
  have h91 : Hid ((w1.alloc (.cells #[.int .i64 e, .string r1, .int .i64 t1.1, .bool t1.2.1, .bool t1.2.2] 23)).cell? ⟨C, 9, none⟩ = some (.slice av xs.length cv)) := hide (((balloc w1 _).cell (p := ⟨C, 9, none⟩) (by simp; omega)).trans ((hb1.cell (p := ⟨C, 9, none⟩) hC).trans h9))
  have g91 : Hid ((w1.alloc (.cells #[.int .i64 e, .string r1, .int .i64 t1.1, .bool t1.2.1, .bool t1.2.2] 23)).frozen? ⟨C, 9, none⟩ = false) := hide (((balloc w1 _).frozen (p := ⟨C, 9, none⟩) (by simp; omega)).trans ((hb1.frozen (p := ⟨C, 9, none⟩) hC).trans g9))
  have HO1 := hide (owns_a (owns_below (unhide HO) hb1) (.cells #[.int .i64 e, .string r1, .int .i64 t1.1, .bool t1.2.1, .bool t1.2.2] 23))
  have HB1 := hide ((hb1.mono (Nat.le_of_lt hC)).trans ((balloc w1 (.cells #[.int .i64 e, .string r1, .int .i64 t1.1, .bool t1.2.1, .bool t1.2.2] 23)).mono (by omega)))
  have hS := Sc.new w1 e r1 t1
  have HSc := hide hS
  have hov : Value.ownBlock (.slice av xs.length cv) ≠ some w1.heap.size := fun h => by have := owns_lt (unhide HO) _ h; omega
  clear hb1 ho1 hT c0 c1 c2 c3 c4 c5 c6 c7 c8 f0 f1 f2 f3 f4 f5 f6 f7 f8 h9 g9 HFb HO HF
  obtain ⟨c0, c1, c2, c3, c4, c5, c6, c7, c8, f0, f1, f2, f3, f4, f5, f6, f7, f8⟩ := unhide HFb1
  dsimp only at c0 c1 c2 c3 c4 c5 c6 c7 c8
  have h9 := unhide h91
  have g9 := unhide g91
  go_wp2_with (at_builtin; refine append_keep rfl (.tmp 25) (.tmp 26) rfl (C + 1) _ xs rfl (unhide HO1) _ L rfl (unhide I1) (by omega) (by simp; omega) ?_)
  intro ao2 cap2 w2 ho2 hb2 hk2
  have HFb2 := hide ((unhide HFb1).below hb2 (Nat.lt_succ_self C))
  have h92 : w2.cell? ⟨C, 9, none⟩ = some (.slice av xs.length cv) := (hb2.cell (p := ⟨C, 9, none⟩) (Nat.lt_succ_self C)).trans (unhide h91)
  have g92 : w2.frozen? ⟨C, 9, none⟩ = false := (hb2.frozen (p := ⟨C, 9, none⟩) (Nat.lt_succ_self C)).trans (unhide g91)
  have HB2 := hide ((unhide HB1).trans (hb2.mono (Nat.le_succ C)))
  have z0 : w2.cell? ⟨w1.heap.size, 0, none⟩ = some (.int .i64 e) := (hk2 w1.heap.size 0 (by simp) hov).trans (unhide HSc).c0
  have z1 : w2.cell? ⟨w1.heap.size, 1, none⟩ = some (.string r1) := (hk2 w1.heap.size 1 (by simp) hov).trans (unhide HSc).c1
  have z2 : w2.cell? ⟨w1.heap.size, 2, none⟩ = some (.int .i64 t1.1) := (hk2 w1.heap.size 2 (by simp) hov).trans (unhide HSc).c2
  have z3 : w2.cell? ⟨w1.heap.size, 3, none⟩ = some (.bool t1.2.1) := (hk2 w1.heap.size 3 (by simp) hov).trans (unhide HSc).c3
  have z4 : w2.cell? ⟨w1.heap.size, 4, none⟩ = some (.bool t1.2.2) := (hk2 w1.heap.size 4 (by simp) hov).trans (unhide HSc).c4
  have HO2 : Hid (w2.ownsRow (C + 1) 3 1 (.slice ao2 (xs.length + L.length) cap2) (xs ++ L).length ((xs ++ L).map (Value.int .i64))) := hide (by simpa using ho2)
  have hC2 : C < w2.heap.size := (unhide HFb2).lt
  have hB2 : w1.heap.size < w2.heap.size := World.block_lt_of_cell? w2 _ z0
  have hne : ¬ (C = w1.heap.size) := by omega
  have hne' : ¬ (w1.heap.size = C) := by omega
  clear ho2 hb2 hk2 h9 g9 c0 c1 c2 c3 c4 c5 c6 c7 c8 f0 f1 f2 f3 f4 f5 f6 f7 f8 HFb1 h91 g91 HO1 HB1 HSc hS I1 hov
  obtain ⟨c0, c1, c2, c3, c4, c5, c6, c7, c8, f0, f1, f2, f3, f4, f5, f6, f7, f8⟩ := unhide HFb2
  dsimp only at c0 c1 c2 c3 c4 c5 c6 c7 c8
  go_wp2_with fail
  go_end0
  refine ⟨rfl, r1, t1, L, ⟨.slice ao2 (xs.length + L.length) cap2, ?_, ?_, ?_, ?_⟩, ?_, unhide HT⟩
  · exact Fb.put5 ((unhide HFb2).c9set _) e r1 t1
  · rw [World.cell?_setCell_other _ _ _ _ (by simp), World.cell?_setCell_other _ _ _ _ (by simp), World.cell?_setCell_other _ _ _ _ (by simp), World.cell?_setCell_other _ _ _ _ (by simp), World.cell?_setCell_other _ _ _ _ (by simp), World.cell?_setCell_same _ _ _ h92]
  · rw [World.frozen?_setCell, World.frozen?_setCell, World.frozen?_setCell, World.frozen?_setCell, World.frozen?_setCell, World.frozen?_setCell]; exact g92
  · exact oput5 (owns_set (unhide HO2) ⟨C, 9, none⟩ (Nat.lt_succ_self C) _) (Nat.lt_succ_self C) e r1 t1
  · exact bput5 (bset (unhide HB2) ⟨C, 9, none⟩ _ (Nat.le_refl _)) (Nat.le_refl _) e r1 t1

theorem Tel.app {e : Int} {r r1 r' : ByteArray} {t t1 t' : M.St} {l m L L' : List Int} {last : Bool} (h1 : Tel e r t l false L r1 t1) (h2 : Tel e r1 t1 (bl r1 ++ m) last L' r' t') : Tel e r t (l ++ m) last (L ++ L') r' t' := by
  obtain ⟨a1, a2, a3⟩ := h1.1 rfl
  rw [a2, a3] at h2
  refine ⟨fun h => ?_, fun h => ?_⟩
  · obtain ⟨b1, b2, b3⟩ := h2.1 h
    rw [M.RE_app, a1, b1]
    exact ⟨rfl, b2, b3⟩
  · obtain ⟨b1, b2, b3⟩ := h2.2 h
    rw [M.TE_app, a1, b1]
    exact ⟨rfl, b2, b3⟩
theorem Tel.right {e : Int} (he : 1 ≤ e ∧ e ≤ 7) {r r' : ByteArray} {t t' : M.St} {l L : List Int} (hk : M.Ok e t) (h : Tel e r t l false L r' t') : (M.wE e (bl r') = r'.size ∧ r'.size ≤ 3) ∧ M.Ok e t' := by
  obtain ⟨_, a2, a3⟩ := h.1 rfl
  have hz : r'.size = (M.RE e t l).2.2.length := by rw [← bl_len, a2]
  refine ⟨⟨?_, ?_⟩, ?_⟩
  · rw [a2, hz]; exact M.RE_left he t l
  · rw [hz]; exact M.RE_few he t l
  · rw [a3]; exact M.Ok_run he hk l
set_option maxHeartbeats 800000 in
set_option maxRecDepth 100000 in
theorem ctell_any (C : Nat) (f : Fr) (xs : List Int) (p : ByteArray) (last : Bool) (w : World) (he : 1 ≤ f.e ∧ f.e ≤ 7) (hr : M.wE f.e (bl f.r) = f.r.size ∧ f.r.size ≤ 3) (hk : M.Ok f.e f.t) (hp : p.size ≤ 6000) (hx : xs.length ≤ 5000) (hD : Ch C f xs w) :
    Calls Tryz.prog 107 #[.pointer (some ⟨C, 0, none⟩), .string p, .bool last] w fun e' w' => e' = .returned (.tuple #[]) ∧ ∃ r' t' L, Ch C { f with r := r', t := t' } (xs ++ L) w' ∧ Below C w w' ∧ Tel f.e f.r f.t (bl f.r ++ bl p) last L r' t' := by
  by_cases h3 : p.size ≤ 3000
  · have H := hide (cfeed_any C f xs p last w he hr hk h3 (by omega) hD)
    clear hr hk hx hD he
    go_enter Tryz.func107, Tryz.ntmps107
    go_wp2_with fail
    refine wp_loop_rounds 1 ?_
    rw [rounds_succ]
    go_wp2_with fail
    refine (unhide H).mono ?_
    rintro e' w1 ⟨rfl, h1⟩
    have H1 := hide h1
    clear h1 H
    go_wp2_with fail
    go_end0
    exact ⟨rfl, unhide H1⟩
  · have H1 := hide (cfeed_any C f xs (p.extract 0 3000) false w he hr hk (by simp; omega) (by omega) hD)
    have hlen : (bl f.r ++ bl (p.extract 0 3000)).length ≤ 3003 := by rw [List.length_append, bl_len, bl_len]; simp; omega
    have HS : Hid (bl f.r ++ bl p = (bl f.r ++ bl (p.extract 0 3000)) ++ bl (p.extract 3000 p.size)) := hide (by rw [bl_take, bl_extract, List.append_assoc, List.take_append_drop])
    have hb0 : (p.extract 3000 p.size).size ≤ 3000 := by simp; omega
    obtain ⟨b, HBq⟩ : ∃ b, Hid (p.extract 3000 p.size = b) := ⟨_, hide rfl⟩
    rw [unhide HBq] at hb0 HS
    have hbq := unhide HBq
    have hh3 : 3000 < p.size := by omega
    clear hr hD
    go_enter Tryz.func107, Tryz.ntmps107
    go_wp2_with fail
    refine wp_loop_rounds 2 ?_
    rw [rounds_succ]
    go_wp2_with fail
    refine (unhide H1).mono ?_
    rintro e' w1 ⟨rfl, r1, t1, L1, hC1, hB1, hT1⟩
    have hr1 := hT1.right he hk
    have hl1 := hT1.len he
    have H2 := hide (cfeed_any C { f with r := r1, t := t1 } (xs ++ L1) b last w1 he hr1.1 hr1.2 hb0 (by rw [List.length_append]; omega) hC1)
    have HT1 := hide hT1
    have HB1 := hide hB1
    clear H1 hC1 hB1 hT1 hr1 hk hlen hl1 he hx
    go_wp2_with fail
    rw [rounds_succ]
    go_wp2_with fail
    refine (unhide H2).mono ?_
    rintro e' w2 ⟨rfl, r2, t2, L2, hC2, hB2, hT2⟩
    have H3 : Hid (∃ r' t' L, Ch C { f with r := r', t := t' } (xs ++ L) w2 ∧ Below C w w2 ∧ Tel f.e f.r f.t (bl f.r ++ bl p) last L r' t') := hide (by
      refine ⟨r2, t2, L1 ++ L2, ?_, (unhide HB1).trans hB2, ?_⟩
      · rw [← List.append_assoc]; exact hC2
      · rw [unhide HS]; exact Tel.app (unhide HT1) hT2)
    clear H2 hC2 hB2 hT2
    go_wp2_with fail
    go_end0
    exact ⟨rfl, unhide H3⟩
end Go.Proofs.YtaiinjfnkmidbaaGreatDoor

namespace Go.Proofs.YtaiinjfnkmidbaaGreatDoor
open Go.RowKit
set_option linter.unusedVariables false

theorem ch_cut (L all : ByteArray) : chI L (bl (all.extract 0 (min all.size 256))) = chI L (bl all) := by
  rw [bl_take]
  by_cases h : all.size ≤ 256
  · rw [Nat.min_eq_left h, List.take_of_length_le (by rw [bl_len]; omega)]
  · rw [Nat.min_eq_right (by omega)]
    have e : chI L ((bl all).take 256 ++ (bl all).drop 256) = chI L ((bl all).take 256) := chI_more (by
      unfold enF
      rw [decide_eq_true (show 256 ≤ ((bl all).take 256).length from by rw [List.length_take, bl_len]; omega)]
      simp) _
    rw [List.take_append_drop] at e
    exact e.symm
theorem Ch.below {C : Nat} {f : Fr} {xs : List Int} {w w2 : World} (h : Ch C f xs w) (hb : Below w.heap.size w w2) : Ch C f xs w2 := by
  obtain ⟨v, h1, h2, h3, h4⟩ := h
  exact ⟨v, h1.on hb, (hb.cell (p := ⟨C, 9, none⟩) h1.lt).trans h2, (hb.frozen (p := ⟨C, 9, none⟩) h1.lt).trans h3, owns_below h4 hb⟩

theorem Ch.lt {C : Nat} {f : Fr} {xs : List Int} {w : World} (h : Ch C f xs w) : C < w.heap.size := by
  obtain ⟨v, h1, _⟩ := h
  exact h1.lt
theorem Ch.put {C k : Nat} {f g : Fr} {xs : List Int} {w : World} {u : Value} (h : Ch C f xs w) (hk : k ≠ 9) (hg : Fb C f w → Fb C g (w.setCell ⟨C, k, none⟩ u)) : Ch C g xs (w.setCell ⟨C, k, none⟩ u) := by
  obtain ⟨v, h1, h2, h3, h4⟩ := h
  exact ⟨v, hg h1, (World.cell?_setCell_other _ _ _ _ (by intro h; cases h; exact hk rfl)).trans h2, by rw [World.frozen?_setCell]; exact h3, owns_set h4 ⟨C, k, none⟩ (Nat.lt_succ_self C) _⟩
theorem Ch.put5 {C : Nat} {f : Fr} {xs : List Int} {w : World} (h : Ch C f xs w) (e : Int) (r : ByteArray) (t : M.St) : Ch C { f with e := e, r := r, t := t } xs (((((w.setCell ⟨C, 4, none⟩ (.int .i64 e)).setCell ⟨C, 5, none⟩ (.string r)).setCell ⟨C, 6, none⟩ (.int .i64 t.1)).setCell ⟨C, 7, none⟩ (.bool t.2.1)).setCell ⟨C, 8, none⟩ (.bool t.2.2)) :=
  ((((h.put (by decide) (fun q => q.set4 e)).put (by decide) (fun q => q.set5 r)).put (by decide) (fun q => q.set6 t.1)).put (by decide) (fun q => q.set7 t.2.1)).put (by decide) (fun q => q.set8 t.2.2)
theorem Ch.put9 {C : Nat} {f : Fr} {xs : List Int} {w : World} (h : Ch C f xs w) (g : Fr) : Ch C g xs (((((((((w.setCell ⟨C, 0, none⟩ (.string g.L)).setCell ⟨C, 1, none⟩ (.int .i64 g.enc)).setCell ⟨C, 2, none⟩ (.int .i64 g.why)).setCell ⟨C, 3, none⟩ (.string g.W)).setCell ⟨C, 4, none⟩ (.int .i64 g.e)).setCell ⟨C, 5, none⟩ (.string g.r)).setCell ⟨C, 6, none⟩ (.int .i64 g.t.1)).setCell ⟨C, 7, none⟩ (.bool g.t.2.1)).setCell ⟨C, 8, none⟩ (.bool g.t.2.2)) :=
  ((((((((h.put (by decide) (fun q => q.set0 g.L)).put (by decide) (fun q => q.set1 g.enc)).put (by decide) (fun q => q.set2 g.why)).put (by decide) (fun q => q.set3 g.W)).put (by decide) (fun q => q.set4 g.e)).put (by decide) (fun q => q.set5 g.r)).put (by decide) (fun q => q.set6 g.t.1)).put (by decide) (fun q => q.set7 g.t.2.1)).put (by decide) (fun q => q.set8 g.t.2.2)
theorem wE_nil {n : Int} (hn : 1 ≤ n ∧ n ≤ 7) : M.wE n (bl ⟨#[]⟩) = (⟨#[]⟩ : ByteArray).size ∧ (⟨#[]⟩ : ByteArray).size ≤ 3 := by
  obtain rfl | rfl | rfl | rfl | rfl | rfl | rfl := M.seven hn <;> decide +kernel

set_option maxHeartbeats 3200000 in
set_option maxRecDepth 100000 in
theorem cchoose_any (C : Nat) (L W all : ByteArray) (w : World) (hL : L.size ≤ 3000) (hall : all.size ≤ 6000) (hM : Mx w) (hD : Ch C ⟨L, 0, 0, W, 0, ⟨#[]⟩, M.st0⟩ [] w) :
    Calls Tryz.prog 106 #[.pointer (some ⟨C, 0, none⟩), .string all] w fun e' w' => e' = .returned (.string (all.extract (chI L (bl all)).2.2.toNat all.size)) ∧ Ch C ⟨L, (chI L (bl all)).1, (chI L (bl all)).2.1, ⟨#[]⟩, (chI L (bl all)).1, ⟨#[]⟩, M.st0⟩ [] w' ∧ Below C w w' := by
  have hbd := chI_bd L (bl all)
  rw [bl_len] at hbd
  have HCh := hide (fun w h => chSays L (all.extract 0 (min all.size 256)) w hL (by simp; omega) h)
  rw [ch_cut] at HCh
  have HOp := hide (fun w => open_yes (chI L (bl all)).1 w hbd.1)
  unfold sv M.st0 at HOp
  dsimp only at HOp
  generalize (chI L (bl all)).1 = n at *
  generalize (chI L (bl all)).2.1 = y at *
  generalize hm : (chI L (bl all)).2.2 = m at *
  obtain ⟨k, rfl⟩ : ∃ k : Nat, m = (k : Int) := ⟨m.toNat, by omega⟩
  rw [Int.toNat_natCast]
  have hkl : k ≤ all.size := by omega
  have HM := hide hM
  obtain ⟨v, hFb, h9, g9, hO⟩ := hD
  have HFb := hide hFb
  have hC := hFb.lt
  have HD := hide (show Ch C ⟨L, 0, 0, W, 0, ⟨#[]⟩, M.st0⟩ [] w from ⟨v, hFb, h9, g9, hO⟩)
  have c0 := hFb.c0
  dsimp only at c0
  have hcl : ∀ w', Below w.heap.size w w' → w'.cell? ⟨C, 0, none⟩ = some (.string L) := fun w' hb => (hb.cell (p := ⟨C, 0, none⟩) hC).trans c0
  have hmin : min (all.size : Int) 256 = ((min all.size 256 : Nat) : Int) := by omega
  have hsl : ∀ wx, (Instr.slice 9 (.string all) none (some (.int .i64 (min (all.size : Int) 256))) none).run Tryz.prog wx = .ok (.string (all.extract 0 (min all.size 256))) wx := fun wx => by
    rw [hmin]
    exact run_slice_string_h (P := Tryz.prog) wx 9 all Tryz.underlying9 .i64 ((min all.size 256 : Nat) : Int) (by omega) (by omega)
  clear hbd hm hM hFb h9 g9 hO c0 hmin
  go_enter Tryz.func106, Tryz.ntmps106
  go_wp2_with fail
  go_region_held3 (fun w' => Below w.heap.size w w') (first | exact below_drewN (Below.refl _ _) 1 | assumption)
    ((first
      | (go_at_call 12; refine (unhide HCh _ ((unhide HM).below (by assumption))).mono ?_; rintro e' z ⟨rfl, hz⟩; have hS := bstep (by assumption) hz; clear hz)))
  have hCz : C < z.heap.size := by have := hS.size; omega
  have HDz := hide ((unhide HD).below hS)
  have HBz := hide (hS.mono (Nat.le_of_lt hC))
  obtain ⟨c0, c1, c2, c3, c4, c5, c6, c7, c8, f0, f1, f2, f3, f4, f5, f6, f7, f8⟩ := (unhide HFb).on hS
  dsimp only [M.st0] at c0 c1 c2 c3 c4 c5 c6 c7 c8
  clear hcl hsl hS HCh HD HFb
  go_wp2_with fail
  refine (unhide HOp _).mono ?_
  rintro e' w2 ⟨rfl, hb2⟩
  have H2 := hide (((((unhide HDz).put (k := 1) (by decide) (fun q => q.set1 n)).put (k := 2) (by decide) (fun q => q.set2 y)).put (k := 3) (by decide) (fun q => q.set3 ⟨#[]⟩)).below hb2)
  have HB2 := hide ((bset (bset (bset (unhide HBz) ⟨C, 1, none⟩ (.int .i64 n) (Nat.le_refl _)) ⟨C, 2, none⟩ (.int .i64 y) (Nat.le_refl _)) ⟨C, 3, none⟩ (.string ⟨#[]⟩) (Nat.le_refl _)).trans (hb2.mono (by simp; omega)))
  have hC2 := (unhide H2).lt
  clear hb2 c0 c1 c2 c3 c4 c5 c6 c7 c8 f0 f1 f2 f3 f4 f5 f6 f7 f8 HDz HBz
  obtain ⟨v2, q2, -, -, -⟩ := unhide H2
  obtain ⟨c0, c1, c2, c3, c4, c5, c6, c7, c8, f0, f1, f2, f3, f4, f5, f6, f7, f8⟩ := q2
  dsimp only [M.st0] at c0 c1 c2 c3 c4 c5 c6 c7 c8
  go_wp2_with fail
  go_ret
  exact ⟨rfl, Ch.put5 (unhide H2) n ⟨#[]⟩ M.st0, bput5 (unhide HB2) (Nat.le_refl _) n ⟨#[]⟩ M.st0⟩
set_option maxHeartbeats 1600000 in
set_option maxRecDepth 100000 in
theorem ctake_on_false (C : Nat) (L : ByteArray) (enc why e : Int) (r : ByteArray) (t : M.St) (p : ByteArray) (w : World) (hy : why ≠ 0) (he : 1 ≤ e ∧ e ≤ 7) (hr : M.wE e (bl r) = r.size ∧ r.size ≤ 3) (hk : M.Ok e t) (hp : p.size ≤ 3000) (hD : Ch C ⟨L, enc, why, ⟨#[]⟩, e, r, t⟩ [] w) :
    Calls Tryz.prog 50 #[.pointer (some ⟨C, 0, none⟩), .string p, .bool false] w fun e' w' => e' = .returned (.tuple #[]) ∧ Ch C (Fr.nxt ⟨L, enc, why, ⟨#[]⟩, e, r, t⟩ p false) (Fr.outs ⟨L, enc, why, ⟨#[]⟩, e, r, t⟩ p false) w' ∧ Below C w w' := by
  have H := hide (ctell_any C ⟨L, enc, why, ⟨#[]⟩, e, r, t⟩ [] p false w he hr hk (by omega) (by simp) hD)
  have hyb : (why == 0) = false := beq_eq_false_iff_ne.2 hy
  have HY := hide hy
  have hC := hD.lt
  obtain ⟨v, q, -, -, -⟩ := hD
  obtain ⟨c0, c1, c2, c3, c4, c5, c6, c7, c8, f0, f1, f2, f3, f4, f5, f6, f7, f8⟩ := q
  dsimp only at c0 c1 c2 c3 c4 c5 c6 c7 c8
  clear hy he hr hk hp
  go_enter Tryz.func50, Tryz.ntmps50
  go_wp2_with fail
  refine (unhide H).mono ?_
  rintro e' w1 ⟨rfl, r1, t1, L1, hC1, hB1, hT1⟩
  rw [List.nil_append] at hC1

  have HN : Hid (Ch C (Fr.nxt ⟨L, enc, why, ⟨#[]⟩, e, r, t⟩ p false) (Fr.outs ⟨L, enc, why, ⟨#[]⟩, e, r, t⟩ p false) w1) := hide (by
    obtain ⟨a1, a2, a3⟩ := hT1.1 rfl
    rw [nxt_on (f := ⟨L, enc, why, ⟨#[]⟩, e, r, t⟩) (unhide HY) a2 a3, outs_on (f := ⟨L, enc, why, ⟨#[]⟩, e, r, t⟩) (unhide HY), ← a1]
    exact hC1)
  have HB1 := hide hB1
  clear hC1 hB1 hT1 H c0 c1 c2 c3 c4 c5 c6 c7 c8 f0 f1 f2 f3 f4 f5 f6 f7 f8
  go_wp2_with fail
  go_end0
  exact ⟨rfl, unhide HN, unhide HB1⟩

set_option maxHeartbeats 1600000 in
set_option maxRecDepth 100000 in
theorem ctake_on_true (C : Nat) (L : ByteArray) (enc why e : Int) (r : ByteArray) (t : M.St) (p : ByteArray) (w : World) (hy : why ≠ 0) (he : 1 ≤ e ∧ e ≤ 7) (hr : M.wE e (bl r) = r.size ∧ r.size ≤ 3) (hk : M.Ok e t) (hp : p.size ≤ 3000) (hD : Ch C ⟨L, enc, why, ⟨#[]⟩, e, r, t⟩ [] w) :
    Calls Tryz.prog 50 #[.pointer (some ⟨C, 0, none⟩), .string p, .bool true] w fun e' w' => e' = .returned (.tuple #[]) ∧ Ch C (Fr.nxt ⟨L, enc, why, ⟨#[]⟩, e, r, t⟩ p true) (Fr.outs ⟨L, enc, why, ⟨#[]⟩, e, r, t⟩ p true) w' ∧ Below C w w' := by
  have H := hide (ctell_any C ⟨L, enc, why, ⟨#[]⟩, e, r, t⟩ [] p true w he hr hk (by omega) (by simp) hD)
  have hyb : (why == 0) = false := beq_eq_false_iff_ne.2 hy
  have HY := hide hy
  have hC := hD.lt
  obtain ⟨v, q, -, -, -⟩ := hD
  obtain ⟨c0, c1, c2, c3, c4, c5, c6, c7, c8, f0, f1, f2, f3, f4, f5, f6, f7, f8⟩ := q
  dsimp only at c0 c1 c2 c3 c4 c5 c6 c7 c8
  clear hy he hr hk hp
  go_enter Tryz.func50, Tryz.ntmps50
  go_wp2_with fail
  refine (unhide H).mono ?_
  rintro e' w1 ⟨rfl, r1, t1, L1, hC1, hB1, hT1⟩
  rw [List.nil_append] at hC1

  have HN : Hid (Fr.outs ⟨L, enc, why, ⟨#[]⟩, e, r, t⟩ p true = L1) := hide (by
    obtain ⟨a1, a2, a3⟩ := hT1.2 rfl
    rw [outs_end (f := ⟨L, enc, why, ⟨#[]⟩, e, r, t⟩) (unhide HY), ← a1])
  have HC1 := hide hC1
  have HB1 := hide hB1
  have hC2 := hC1.lt
  clear hB1 hT1 H c0 c1 c2 c3 c4 c5 c6 c7 c8 f0 f1 f2 f3 f4 f5 f6 f7 f8
  obtain ⟨v1, q1, -, -, -⟩ := hC1
  obtain ⟨c0, c1, c2, c3, c4, c5, c6, c7, c8, f0, f1, f2, f3, f4, f5, f6, f7, f8⟩ := q1
  dsimp only at c0 c1 c2 c3 c4 c5 c6 c7 c8
  go_wp2_with fail
  go_end0
  refine ⟨rfl, ?_, bput9 (unhide HB1) (Nat.le_refl _) (Fr.new L)⟩
  rw [unhide HN]
  exact Ch.put9 (unhide HC1) (Fr.new L)

set_option maxHeartbeats 1600000 in
set_option maxRecDepth 100000 in
theorem ctake_wait (C : Nat) (L W p : ByteArray) (w : World) (hL : L.size ≤ 3000) (hW : W.size < 256) (hp : p.size ≤ 3000) (hM : Mx w) (hE : enF L (bl W ++ bl p) = false) (hD : Ch C ⟨L, 0, 0, W, 0, ⟨#[]⟩, M.st0⟩ [] w) :
    Calls Tryz.prog 50 #[.pointer (some ⟨C, 0, none⟩), .string p, .bool false] w fun e' w' => e' = .returned (.tuple #[]) ∧ Ch C (Fr.nxt ⟨L, 0, 0, W, 0, ⟨#[]⟩, M.st0⟩ p false) (Fr.outs ⟨L, 0, 0, W, 0, ⟨#[]⟩, M.st0⟩ p false) w' ∧ Below C w w' := by
  have HM := hide hM
  have HD := hide hD
  have hC := hD.lt
  obtain ⟨s, hs1⟩ : ∃ s, W ++ p = s := ⟨_, rfl⟩
  have hs2 : W.append p = s := hs1
  have hsz : s.size ≤ 3255 := by rw [← hs1]; simp; omega
  have HS : Hid (bl s = bl W ++ bl p) := hide (by rw [← hs1, bl_app])
  have HEn := hide (fun w => enough_any L s w hL (by unfold maxLen; omega))
  rw [unhide HS, hE] at HEn
  have HCl := hide (fun w => clone_any s w (by omega))
  have HN : Hid (∀ w', Ch C ⟨L, 0, 0, s, 0, ⟨#[]⟩, M.st0⟩ [] w' → Ch C (Fr.nxt ⟨L, 0, 0, W, 0, ⟨#[]⟩, M.st0⟩ p false) (Fr.outs ⟨L, 0, 0, W, 0, ⟨#[]⟩, M.st0⟩ p false) w') := hide (fun w' h => by rw [nxt_wait hE, outs_wait hE, hs1]; exact h)
  obtain ⟨v, q, -, -, -⟩ := hD
  obtain ⟨c0, c1, c2, c3, c4, c5, c6, c7, c8, f0, f1, f2, f3, f4, f5, f6, f7, f8⟩ := q
  dsimp only [M.st0] at c0 c1 c2 c3 c4 c5 c6 c7 c8
  clear hM
  clear hE
  go_enter Tryz.func50, Tryz.ntmps50
  go_wp2_with fail
  refine (unhide HEn _).mono ?_
  rintro e' w1 ⟨rfl, hb1⟩
  have HB1 := hide (hb1.mono (Nat.le_of_lt hC))
  have HM1 := hide ((unhide HM).below hb1)
  have HD1 := hide ((unhide HD).below hb1)
  have hC1 := (unhide HD1).lt
  clear hb1 HEn HM HD c0 c1 c2 c3 c4 c5 c6 c7 c8 f0 f1 f2 f3 f4 f5 f6 f7 f8
  obtain ⟨v1, q1, -, -, -⟩ := unhide HD1
  obtain ⟨c0, c1, c2, c3, c4, c5, c6, c7, c8, f0, f1, f2, f3, f4, f5, f6, f7, f8⟩ := q1
  dsimp only [M.st0] at c0 c1 c2 c3 c4 c5 c6 c7 c8
  go_wp2_with fail
  refine (unhide HCl _).mono ?_
  rintro e' w2 ⟨rfl, hb2⟩
  have HD2 := hide ((unhide HD1).below hb2)
  have HB2 := hide ((unhide HB1).trans (hb2.mono (Nat.le_of_lt hC1)))
  have hC2 := (unhide HD2).lt
  clear hb2 HD1 HB1 HCl c0 c1 c2 c3 c4 c5 c6 c7 c8 f0 f1 f2 f3 f4 f5 f6 f7 f8
  obtain ⟨v2, q2, -, -, -⟩ := unhide HD2
  obtain ⟨c0, c1, c2, c3, c4, c5, c6, c7, c8, f0, f1, f2, f3, f4, f5, f6, f7, f8⟩ := q2
  dsimp only [M.st0] at c0 c1 c2 c3 c4 c5 c6 c7 c8
  go_wp2_with fail
  first | go_end0 | refine bodyPost_ret (results_none rfl _ _ _) rfl ?_
  exact ⟨rfl, unhide HN _ ((unhide HD2).put (k := 3) (by decide) (fun q => q.set3 s)), bset (unhide HB2) ⟨C, 3, none⟩ _ (Nat.le_refl _)⟩

set_option maxHeartbeats 1600000 in
set_option maxRecDepth 100000 in
theorem ctake_got_false (C : Nat) (L W p : ByteArray) (w : World) (hL : L.size ≤ 3000) (hW : W.size < 256) (hp : p.size ≤ 3000) (hM : Mx w) (hE : enF L (bl W ++ bl p) = true) (hD : Ch C ⟨L, 0, 0, W, 0, ⟨#[]⟩, M.st0⟩ [] w) :
    Calls Tryz.prog 50 #[.pointer (some ⟨C, 0, none⟩), .string p, .bool false] w fun e' w' => e' = .returned (.tuple #[]) ∧ Ch C (Fr.nxt ⟨L, 0, 0, W, 0, ⟨#[]⟩, M.st0⟩ p false) (Fr.outs ⟨L, 0, 0, W, 0, ⟨#[]⟩, M.st0⟩ p false) w' ∧ Below C w w' := by
  have HM := hide hM
  have HD := hide hD
  have hC := hD.lt
  obtain ⟨s, hs1⟩ : ∃ s, W ++ p = s := ⟨_, rfl⟩
  have hs2 : W.append p = s := hs1
  have hsz : s.size ≤ 3255 := by rw [← hs1]; simp; omega
  have HS : Hid (bl s = bl W ++ bl p) := hide (by rw [← hs1, bl_app])
  have HEn := hide (fun w => enough_any L s w hL (by unfold maxLen; omega))
  rw [unhide HS, hE] at HEn
  have hbd := chI_bd L (bl s)
  rw [bl_len] at hbd
  obtain ⟨n, y, m, HX⟩ : ∃ n y m, Hid (chI L (bl s) = (n, y, m)) := ⟨_, _, _, hide rfl⟩
  have HCo := hide (fun w h hd => cchoose_any C L W s w hL (by omega) h hd)
  rw [unhide HX] at HCo hbd
  dsimp only at HCo hbd
  obtain ⟨hn, hyb, hm0, hm3, hml⟩ := hbd
  obtain ⟨q', HQ⟩ : ∃ q', Hid (s.extract m.toNat s.size = q') := ⟨_, hide rfl⟩
  have hqz : q'.size ≤ 3255 := by rw [← unhide HQ]; simp; omega
  rw [unhide HQ] at HCo
  have HQ2 : Hid (bl q' = (bl W ++ bl p).drop m.toNat) := hide (by rw [← unhide HQ, bl_extract, unhide HS])
  have HX2 : Hid (chI L (bl W ++ bl p) = (n, y, m)) := hide (by rw [← unhide HS]; exact unhide HX)
  have HTl := hide (fun w hd => ctell_any C ⟨L, n, y, ⟨#[]⟩, n, ⟨#[]⟩, M.st0⟩ [] q' false w hn (wE_nil hn) (M.Ok_st0 n) (by omega) (by simp) hd)
  have HN : Hid (∀ w' r1 t1 L1, Ch C ⟨L, n, y, ⟨#[]⟩, n, r1, t1⟩ L1 w' → Tel n ⟨#[]⟩ M.st0 (bl ⟨#[]⟩ ++ bl q') false L1 r1 t1 → Ch C (Fr.nxt ⟨L, 0, 0, W, 0, ⟨#[]⟩, M.st0⟩ p false) (Fr.outs ⟨L, 0, 0, W, 0, ⟨#[]⟩, M.st0⟩ p false) w') := hide (fun w' r1 t1 L1 h ht => by
    obtain ⟨a1, a2, a3⟩ := ht.1 rfl
    rw [nxt_got hE (unhide HX2) (unhide HQ2) a2 a3, outs_got hE (unhide HX2) (unhide HQ2), ← a1]
    exact h)
  obtain ⟨v, q, -, -, -⟩ := hD
  obtain ⟨c0, c1, c2, c3, c4, c5, c6, c7, c8, f0, f1, f2, f3, f4, f5, f6, f7, f8⟩ := q
  dsimp only [M.st0] at c0 c1 c2 c3 c4 c5 c6 c7 c8
  clear hM
  clear hE
  clear hn hyb hm0 hm3 hml hqz HQ HX HQ2 HX2 HS
  go_enter Tryz.func50, Tryz.ntmps50
  go_wp2_with fail
  refine (unhide HEn _).mono ?_
  rintro e' w1 ⟨rfl, hb1⟩
  have HB1 := hide (hb1.mono (Nat.le_of_lt hC))
  have HM1 := hide ((unhide HM).below hb1)
  have HD1 := hide ((unhide HD).below hb1)
  have hC1 := (unhide HD1).lt
  clear hb1 HEn HM HD c0 c1 c2 c3 c4 c5 c6 c7 c8 f0 f1 f2 f3 f4 f5 f6 f7 f8
  go_wp2_with fail
  refine (unhide HCo _ (unhide HM1) (unhide HD1)).mono ?_
  rintro e' w2 ⟨rfl, hD2, hb2⟩
  have HB2 := hide ((unhide HB1).trans hb2)
  clear HB1 HD1 HM1
  have HD2 := hide hD2
  clear hb2 hD2 HCo
  go_wp2_with fail
  refine (unhide HTl _ (unhide HD2)).mono ?_
  rintro e' w3 ⟨rfl, r1, t1, L1, hC3, hB3, hT3⟩
  rw [List.nil_append] at hC3
  have HB3 := hide ((unhide HB2).trans hB3)
  have HE := hide (unhide HN w3 r1 t1 L1 hC3 hT3)
  clear hC3 hB3 hT3 HTl HN HB2 HD2
  go_wp2_with fail
  go_end0
  exact ⟨rfl, unhide HE, unhide HB3⟩

set_option maxHeartbeats 1600000 in
set_option maxRecDepth 100000 in
theorem ctake_got_true (C : Nat) (L W p : ByteArray) (w : World) (hL : L.size ≤ 3000) (hW : W.size < 256) (hp : p.size ≤ 3000) (hM : Mx w) (hD : Ch C ⟨L, 0, 0, W, 0, ⟨#[]⟩, M.st0⟩ [] w) :
    Calls Tryz.prog 50 #[.pointer (some ⟨C, 0, none⟩), .string p, .bool true] w fun e' w' => e' = .returned (.tuple #[]) ∧ Ch C (Fr.nxt ⟨L, 0, 0, W, 0, ⟨#[]⟩, M.st0⟩ p true) (Fr.outs ⟨L, 0, 0, W, 0, ⟨#[]⟩, M.st0⟩ p true) w' ∧ Below C w w' := by
  have HM := hide hM
  have HD := hide hD
  have hC := hD.lt
  obtain ⟨s, hs1⟩ : ∃ s, W ++ p = s := ⟨_, rfl⟩
  have hs2 : W.append p = s := hs1
  have hsz : s.size ≤ 3255 := by rw [← hs1]; simp; omega
  have HS : Hid (bl s = bl W ++ bl p) := hide (by rw [← hs1, bl_app])
  have hbd := chI_bd L (bl s)
  rw [bl_len] at hbd
  obtain ⟨n, y, m, HX⟩ : ∃ n y m, Hid (chI L (bl s) = (n, y, m)) := ⟨_, _, _, hide rfl⟩
  have HCo := hide (fun w h hd => cchoose_any C L W s w hL (by omega) h hd)
  rw [unhide HX] at HCo hbd
  dsimp only at HCo hbd
  obtain ⟨hn, hyb, hm0, hm3, hml⟩ := hbd
  obtain ⟨q', HQ⟩ : ∃ q', Hid (s.extract m.toNat s.size = q') := ⟨_, hide rfl⟩
  have hqz : q'.size ≤ 3255 := by rw [← unhide HQ]; simp; omega
  rw [unhide HQ] at HCo
  have HQ2 : Hid (bl q' = (bl W ++ bl p).drop m.toNat) := hide (by rw [← unhide HQ, bl_extract, unhide HS])
  have HX2 : Hid (chI L (bl W ++ bl p) = (n, y, m)) := hide (by rw [← unhide HS]; exact unhide HX)
  have HTl := hide (fun w hd => ctell_any C ⟨L, n, y, ⟨#[]⟩, n, ⟨#[]⟩, M.st0⟩ [] q' true w hn (wE_nil hn) (M.Ok_st0 n) (by omega) (by simp) hd)
  have HN : Hid (∀ r1 t1 L1, Tel n ⟨#[]⟩ M.st0 (bl ⟨#[]⟩ ++ bl q') true L1 r1 t1 → Fr.outs ⟨L, 0, 0, W, 0, ⟨#[]⟩, M.st0⟩ p true = L1) := hide (fun r1 t1 L1 ht => by
    obtain ⟨a1, a2, a3⟩ := ht.2 rfl
    rw [outs_whole (unhide HX2) (unhide HQ2), ← a1])
  obtain ⟨v, q, -, -, -⟩ := hD
  obtain ⟨c0, c1, c2, c3, c4, c5, c6, c7, c8, f0, f1, f2, f3, f4, f5, f6, f7, f8⟩ := q
  dsimp only [M.st0] at c0 c1 c2 c3 c4 c5 c6 c7 c8
  clear hM
  clear hn hyb hm0 hm3 hml hqz HQ HX HQ2 HX2 HS
  go_enter Tryz.func50, Tryz.ntmps50
  go_wp2_with fail
  refine (unhide HCo _ (unhide HM) (unhide HD)).mono ?_
  rintro e' w2 ⟨rfl, hD2, hb2⟩
  have HB2 := hide hb2
  clear HM HD c0 c1 c2 c3 c4 c5 c6 c7 c8 f0 f1 f2 f3 f4 f5 f6 f7 f8
  have HD2 := hide hD2
  clear hb2 hD2 HCo
  go_wp2_with fail
  refine (unhide HTl _ (unhide HD2)).mono ?_
  rintro e' w3 ⟨rfl, r1, t1, L1, hC3, hB3, hT3⟩
  rw [List.nil_append] at hC3
  have HB3 := hide ((unhide HB2).trans hB3)
  have HE := hide (unhide HN r1 t1 L1 hT3)
  have HC3 := hide hC3
  have hC4 := hC3.lt
  clear hB3 hT3 HTl HN HB2 HD2
  obtain ⟨v3, q3, -, -, -⟩ := hC3
  obtain ⟨c0, c1, c2, c3, c4, c5, c6, c7, c8, f0, f1, f2, f3, f4, f5, f6, f7, f8⟩ := q3
  dsimp only at c0 c1 c2 c3 c4 c5 c6 c7 c8
  go_wp2_with fail
  go_end0
  refine ⟨rfl, ?_, bput9 (unhide HB3) (Nat.le_refl _) (Fr.new L)⟩
  rw [unhide HE]
  exact Ch.put9 (unhide HC3) (Fr.new L)

theorem ctake_any (C : Nat) (f : Fr) (p : ByteArray) (last : Bool) (w : World) (hk : f.chk = 0) (hp : p.size ≤ 3000) (hM : Mx w) (hD : Ch C f [] w) :
    Calls Tryz.prog 50 #[.pointer (some ⟨C, 0, none⟩), .string p, .bool last] w fun e' w' => e' = .returned (.tuple #[]) ∧ Ch C (f.nxt p last) (f.outs p last) w' ∧ Below C w w' := by
  obtain ⟨L, enc, why, W, e, r, g, fr, st⟩ := f
  have h := hk
  unfold Fr.chk at h
  dsimp only at h
  split at h
  · cases h
  rename_i c1
  split at h
  · cases h
  split at h
  · cases h
  rename_i c3
  split at h
  · cases h
  rename_i c4
  split at h
  · rename_i c5
    subst c5
    split at h
    · cases h
    rename_i c6
    have h4 : enc = 0 := by omega
    obtain ⟨rfl, hr0, ht⟩ : e = 0 ∧ r.size = 0 ∧ (g, fr, st) = M.st0 := by
      refine Classical.byContradiction fun q => c4 (.inl ⟨rfl, q⟩)
    have hr := size0 hr0
    subst hr h4
    obtain ⟨rfl, rfl, rfl⟩ : g = 0 ∧ fr = false ∧ st = false := by simpa [M.st0] using ht
    have hW : W.size < 256 := by
      have := enF_few (name := L) (l := bl W) (by simpa using c6)
      rwa [bl_len] at this
    cases last
    · cases hE : enF L (bl W ++ bl p)
      · exact ctake_wait C L W p w (by omega) hW hp hM hE hD
      · exact ctake_got_false C L W p w (by omega) hW hp hM hE hD
    · exact ctake_got_true C L W p w (by omega) hW hp hM hD
  · rename_i c5
    have hW0 : W.size = 0 := Classical.byContradiction fun q => c4 (.inr ⟨c5, .inl q⟩)
    have hee : e = enc := Classical.byContradiction fun q => c4 (.inr ⟨c5, .inr q⟩)
    have hW := size0 hW0
    subst hW hee
    obtain ⟨k1, k2, k3⟩ := chk_ok.1 h
    cases last
    · exact ctake_on_false C L e why e r (g, fr, st) p w c5 k1 k2 k3 hp hD
    · exact ctake_on_true C L e why e r (g, fr, st) p w c5 k1 k2 k3 hp hD
end Go.Proofs.YtaiinjfnkmidbaaGreatDoor

namespace Go.Proofs.YtaiinjfnkmidbaaGreatDoor
open Go.RowKit
set_option linter.unusedVariables false

def InF6 (W : World) (N : Fr) (O : List Int) (a x f : Value) (wx : World) : Prop :=
  ∃ av cv B, a = .slice av O.length cv ∧ x = .pointer (some ⟨B, 0, none⟩) ∧ f = .int .i64 0 ∧ Fb B N wx ∧ Ints wx (.slice av O.length cv) O ∧ Below W.heap.size W wx
theorem InF6.a {W w1 : World} {N : Fr} {O : List Int} {av : Option Addr} {cv : Nat} (HW : Below W.heap.size W w1) (HI : w1.ownsRow W.heap.size 3 1 (.slice av O.length cv) O.length (O.map (Value.int .i64))) :
    InF6 W N O (.slice av O.length cv) (.pointer (some ⟨w1.heap.size, 0, none⟩)) (.int .i64 0) (w1.alloc (.cells #[.string N.L, .int .i64 N.enc, .int .i64 N.why, .string N.W, .int .i64 N.e, .string N.r, .int .i64 N.t.1, .bool N.t.2.1, .bool N.t.2.2] 25)) :=
  ⟨av, cv, w1.heap.size, rfl, rfl, rfl, Fb.new w1 N, (Ints.of_owns HI).below (balloc _ _), bstep HW (balloc _ _)⟩
theorem InF6.b {W w1 : World} {N N0 : Fr} {O : List Int} {av : Option Addr} {cv : Nat} (HW : Below W.heap.size W w1) (HR : Fb W.heap.size N0 w1) (HI : w1.ownsRow (W.heap.size + 1) 3 1 (.slice av O.length cv) O.length (O.map (Value.int .i64))) :
    InF6 W N O (.slice av O.length cv) (.pointer (some ⟨W.heap.size, 0, none⟩)) (.int .i64 0) (((((((((w1.setCell ⟨W.heap.size, 0, none⟩ (.string N.L)).setCell ⟨W.heap.size, 1, none⟩ (.int .i64 N.enc)).setCell ⟨W.heap.size, 2, none⟩ (.int .i64 N.why)).setCell ⟨W.heap.size, 3, none⟩ (.string N.W)).setCell ⟨W.heap.size, 4, none⟩ (.int .i64 N.e)).setCell ⟨W.heap.size, 5, none⟩ (.string N.r)).setCell ⟨W.heap.size, 6, none⟩ (.int .i64 N.t.1)).setCell ⟨W.heap.size, 7, none⟩ (.bool N.t.2.1)).setCell ⟨W.heap.size, 8, none⟩ (.bool N.t.2.2)) :=
  ⟨av, cv, W.heap.size, rfl, rfl, rfl, HR.put9 N, Ints.of_owns (oput9 HI (Nat.lt_succ_self _) N), bput9 HW (Nat.le_refl _) N⟩
theorem chk_sizes {f : Fr} (h : f.chk = 0) : f.L.size ≤ 3000 ∧ f.W.size ≤ 3000 ∧ f.r.size ≤ 3000 := by
  unfold Fr.chk at h
  split at h
  · cases h
  rename_i h1
  split at h
  · cases h
  split at h
  · cases h
  split at h
  · cases h
  rename_i h4
  split at h
  · rename_i h5
    refine ⟨by omega, by omega, ?_⟩
    have : f.e = 0 ∧ f.r.size = 0 ∧ f.t = M.st0 := by
      rcases Classical.em (f.e = 0 ∧ f.r.size = 0 ∧ f.t = M.st0) with a | a
      · exact a
      · exact absurd (.inl ⟨h5, a⟩) h4
    omega
  · have := (chk_ok.1 h).2.1.2
    exact ⟨by omega, by omega, by omega⟩
end Go.Proofs.YtaiinjfnkmidbaaGreatDoor

namespace Go.Proofs.YtaiinjfnkmidbaaGreatDoor
open Go.RowKit
set_option linter.unusedVariables false

theorem nxt_L (f : Fr) (p : ByteArray) (last : Bool) : (f.nxt p last).L = f.L := by
  unfold Fr.nxt
  split
  · rfl
  · split
    · split <;> rfl
    · rfl
theorem Ch.new (w : World) (L : ByteArray) (enc why : Int) (W : ByteArray) (e : Int) (r : ByteArray) (g : Int) (fr st : Bool) : Ch w.heap.size ⟨L, enc, why, W, e, r, (g, fr, st)⟩ [] (w.alloc (.cells #[.string L, .int .i64 enc, .int .i64 why, .string W, .int .i64 e, .string r, .int .i64 g, .bool fr, .bool st, .slice none 0 0] 84)) :=
  ⟨.slice none 0 0, by constructor <;> simp [go_sem], by simp [go_sem], by simp [go_sem], World.ownsRow_nil _ _ _ _⟩
set_option maxHeartbeats 3200000 in
set_option maxRecDepth 100000 in
theorem fdSays : FdSays := by
  intro f p last w hk hp hM
  have hz := chk_sizes hk
  have HCk := hide (fun w h => ckSays f w (by unfold maxLen; omega) (by unfold maxLen; omega) (by unfold maxLen; omega) h)
  rw [hk] at HCk
  have HTk := hide (fun C w hm hd => ctake_any C f p last w hk hp hm hd)
  have HNL := hide (nxt_L f p last)
  have HM := hide hM
  obtain ⟨L, enc, why, W, e, r, g, fr, st⟩ := f
  generalize Fr.nxt ⟨L, enc, why, W, e, r, g, fr, st⟩ p last = N at *
  generalize Fr.outs ⟨L, enc, why, W, e, r, g, fr, st⟩ p last = xs at *
  dsimp only at hz HNL
  have HCl := hide (fun w => clone_any N.L w (by rw [unhide HNL]; omega))
  obtain ⟨nL, nenc, nwhy, nW, ne, nr, ng, nfr, nst⟩ := N
  unfold Fr.v at HCk ⊢
  dsimp only at HCk HCl ⊢
  clear hk hM hz HNL
  go_enter Tryz.func14, Tryz.ntmps14
  go_wp2_with fail
  refine (unhide HCk _ ((unhide HM).below (bstep (balloc w (.cells #[.string L, .int .i64 enc, .int .i64 why, .string W, .int .i64 e, .string r, .int .i64 g, .bool fr, .bool st] 25)) (balloc _ (.cells #[.string ⟨#[]⟩, .int .i64 0, .int .i64 0, .string ⟨#[]⟩, .int .i64 0, .string ⟨#[]⟩, .int .i64 0, .bool false, .bool false] 25))))).mono ?_
  rintro e' w1 ⟨rfl, hb1⟩
  have HR1 := hide ((Fb.new2 w (.cells #[.string L, .int .i64 enc, .int .i64 why, .string W, .int .i64 e, .string r, .int .i64 g, .bool fr, .bool st] 25)).on hb1)
  have HF1 := hide (((Fb.new w ⟨L, enc, why, W, e, r, (g, fr, st)⟩).alloc (.cells #[.string ⟨#[]⟩, .int .i64 0, .int .i64 0, .string ⟨#[]⟩, .int .i64 0, .string ⟨#[]⟩, .int .i64 0, .bool false, .bool false] 25)).on hb1)
  have HB1 := hide (bstep (bstep (balloc w (.cells #[.string L, .int .i64 enc, .int .i64 why, .string W, .int .i64 e, .string r, .int .i64 g, .bool fr, .bool st] 25)) (balloc _ (.cells #[.string ⟨#[]⟩, .int .i64 0, .int .i64 0, .string ⟨#[]⟩, .int .i64 0, .string ⟨#[]⟩, .int .i64 0, .bool false, .bool false] 25))) hb1)
  have hz1 : w.heap.size + 2 ≤ w1.heap.size := by have := hb1.size; simp at this; omega
  clear hb1 HCk
  obtain ⟨c0, c1, c2, c3, c4, c5, c6, c7, c8, f0, f1, f2, f3, f4, f5, f6, f7, f8⟩ := unhide HF1
  dsimp only at c0 c1 c2 c3 c4 c5 c6 c7 c8
  have hBl : w.heap.size < w1.heap.size := by omega
  go_wp2_with fail
  refine (unhide HTk _ _ ((unhide HM).below (bstep (unhide HB1) (balloc w1 (.cells #[.string L, .int .i64 enc, .int .i64 why, .string W, .int .i64 e, .string r, .int .i64 g, .bool fr, .bool st, .slice none 0 0] 84)))) (Ch.new w1 L enc why W e r g fr st)).mono ?_
  rintro e' w2 ⟨rfl, hC2, hB2⟩
  have HB2 := hide ((bstep (unhide HB1) (balloc w1 (.cells #[.string L, .int .i64 enc, .int .i64 why, .string W, .int .i64 e, .string r, .int .i64 g, .bool fr, .bool st, .slice none 0 0] 84))).trans (hB2.mono (by omega)))
  have HR2 := hide (((unhide HR1).alloc (.cells #[.string L, .int .i64 enc, .int .i64 why, .string W, .int .i64 e, .string r, .int .i64 g, .bool fr, .bool st, .slice none 0 0] 84)).below hB2 (by omega))
  have hlt2 := hC2.lt
  have HC2 := hide hC2
  generalize hCq : w1.heap.size = C at *
  clear hCq hB2 HTk HF1 HB1 HR1 c0 c1 c2 c3 c4 c5 c6 c7 c8 f0 f1 f2 f3 f4 f5 f6 f7 f8 hBl
  obtain ⟨v2, q2, -, -, -⟩ := hC2
  obtain ⟨c0, c1, c2, c3, c4, c5, c6, c7, c8, f0, f1, f2, f3, f4, f5, f6, f7, f8⟩ := q2
  dsimp only at c0 c1 c2 c3 c4 c5 c6 c7 c8
  go_wp2_with fail
  refine (unhide HCl _).mono ?_
  rintro e' w3 ⟨rfl, hb3⟩
  have HC3 := hide ((unhide HC2).below hb3)
  have HR3 := hide ((unhide HR2).on hb3)
  have HB3 := hide (bstep (unhide HB2) hb3)
  have hlt3 := (unhide HC3).lt
  have hltR := (unhide HR3).lt
  clear hb3 HC2 HR2 HB2 HCl c0 c1 c2 c3 c4 c5 c6 c7 c8 f0 f1 f2 f3 f4 f5 f6 f7 f8 hlt2
  obtain ⟨v3, q3, h9, g9, hO⟩ := unhide HC3
  obtain ⟨av, cv, hsv⟩ := owns_shape hO
  subst hsv
  have HO := hide hO
  obtain ⟨c0, c1, c2, c3, c4, c5, c6, c7, c8, f0, f1, f2, f3, f4, f5, f6, f7, f8⟩ := q3
  dsimp only at c0 c1 c2 c3 c4 c5 c6 c7 c8
  obtain ⟨b0, b1, b2, b3, b4, b5, b6, b7, b8, g0, g1, g2, g3, g4, g5, g6, g7, g8⟩ := unhide HR3
  dsimp only [Fr.new, M.st0] at b0 b1 b2 b3 b4 b5 b6 b7 b8
  have hne : ¬ (w.heap.size + 1 = C) := by omega
  have hne' : ¬ (C = w.heap.size + 1) := by omega
  clear hO
  go_wp2_with fail
  go_region
  all_goals
    go_wp2_with fail
    refine bodyPost_ret (v := .tuple #[.slice av xs.length cv, .agg #[.string nL, .int .i64 nenc, .int .i64 nwhy, .string nW, .int .i64 ne, .string nr, .int .i64 ng, .bool nfr, .bool nst], .int .i64 0]) (by simp [results, Tryz.results14, go_sem, b0, b1, b2, b3, b4, b5, b6, b7, b8]) rfl ?_
    have HZ9 := bput9 (B := w.heap.size + 1) (bset (unhide HB3) ⟨C, 0, none⟩ (.string nL) (by simp; omega)) (by omega) ⟨nL, nenc, nwhy, nW, ne, nr, (ng, nfr, nst)⟩
    have HO9 := owns_mono (owns_below (oput9 (B := w.heap.size + 1) (owns_set (unhide HO) ⟨C, 0, none⟩ (Nat.lt_succ_self C) (.string nL)) (by omega) ⟨nL, nenc, nwhy, nW, ne, nr, (ng, nfr, nst)⟩) (below_drewN (Below.refl _ _) 1)) (show w.heap.size ≤ C + 1 from by omega)
    exact ⟨.slice av xs.length cv, rfl, HO9, below_drewN HZ9 1⟩
set_option maxHeartbeats 3200000 in
set_option maxRecDepth 100000 in
theorem fdErrs : FdErrs := by
  intro f p last w hL hW hr hpm h hM
  have HCk := hide (fun w h => ckSays f w hL hW hr h)
  have HM := hide hM
  unfold maxLen at hpm
  by_cases hk : f.chk = 0
  · have h3 : 3000 < p.size := by rcases h with h | h; exact absurd hk h; exact h
    rw [hk] at HCk ⊢
    rw [if_pos rfl]
    obtain ⟨L, enc, why, W, e, r, g, fr, st⟩ := f
    unfold Fr.v at HCk ⊢
    dsimp only [Fr.new, M.st0] at HCk ⊢
    clear hk hM hL hW hr h
    go_enter Tryz.func14, Tryz.ntmps14
    go_wp2_with fail
    refine (unhide HCk _ ((unhide HM).below (bstep (balloc w (.cells #[.string L, .int .i64 enc, .int .i64 why, .string W, .int .i64 e, .string r, .int .i64 g, .bool fr, .bool st] 25)) (balloc _ (.cells #[.string ⟨#[]⟩, .int .i64 0, .int .i64 0, .string ⟨#[]⟩, .int .i64 0, .string ⟨#[]⟩, .int .i64 0, .bool false, .bool false] 25))))).mono ?_
    rintro e' w1 ⟨rfl, hb1⟩
    have HR1 := hide ((Fb.new2 w (.cells #[.string L, .int .i64 enc, .int .i64 why, .string W, .int .i64 e, .string r, .int .i64 g, .bool fr, .bool st] 25)).on hb1)
    have HF1 := hide (((Fb.new w ⟨L, enc, why, W, e, r, (g, fr, st)⟩).alloc (.cells #[.string ⟨#[]⟩, .int .i64 0, .int .i64 0, .string ⟨#[]⟩, .int .i64 0, .string ⟨#[]⟩, .int .i64 0, .bool false, .bool false] 25)).on hb1)
    have HB1 := hide (bstep (bstep (balloc w (.cells #[.string L, .int .i64 enc, .int .i64 why, .string W, .int .i64 e, .string r, .int .i64 g, .bool fr, .bool st] 25)) (balloc _ (.cells #[.string ⟨#[]⟩, .int .i64 0, .int .i64 0, .string ⟨#[]⟩, .int .i64 0, .string ⟨#[]⟩, .int .i64 0, .bool false, .bool false] 25))) hb1)
    have hz1 : w.heap.size + 2 ≤ w1.heap.size := by have := hb1.size; simp at this; omega
    clear hb1 HCk
    obtain ⟨b0, b1, b2, b3, b4, b5, b6, b7, b8, g0, g1, g2, g3, g4, g5, g6, g7, g8⟩ := unhide HR1
    dsimp only [Fr.new, M.st0] at b0 b1 b2 b3 b4 b5 b6 b7 b8
    have hlt := (unhide HR1).lt
    go_wp2_with fail
    refine bodyPost_ret (v := .tuple #[.slice none 0 0, .agg #[.string ⟨#[]⟩, .int .i64 0, .int .i64 0, .string ⟨#[]⟩, .int .i64 0, .string ⟨#[]⟩, .int .i64 0, .bool false, .bool false], .int .i64 2]) (by simp [results, Tryz.results14, go_sem, b0, b1, b2, b3, b4, b5, b6, b7, b8]) rfl ?_
    exact ⟨.slice none 0 0, rfl, Ints.nil _, bput9 (B := w.heap.size + 1) (unhide HB1) (by omega) (Fr.new ⟨#[]⟩)⟩
  · rw [if_neg hk]
    have hkb : (f.chk != 0) = true := bne_iff_ne.2 hk
    generalize f.chk = K at *
    obtain ⟨L, enc, why, W, e, r, g, fr, st⟩ := f
    unfold Fr.v at HCk ⊢
    dsimp only [Fr.new, M.st0] at HCk ⊢
    clear hk hM hL hW hr h
    go_enter Tryz.func14, Tryz.ntmps14
    go_wp2_with fail
    refine (unhide HCk _ ((unhide HM).below (bstep (balloc w (.cells #[.string L, .int .i64 enc, .int .i64 why, .string W, .int .i64 e, .string r, .int .i64 g, .bool fr, .bool st] 25)) (balloc _ (.cells #[.string ⟨#[]⟩, .int .i64 0, .int .i64 0, .string ⟨#[]⟩, .int .i64 0, .string ⟨#[]⟩, .int .i64 0, .bool false, .bool false] 25))))).mono ?_
    rintro e' w1 ⟨rfl, hb1⟩
    have HR1 := hide ((Fb.new2 w (.cells #[.string L, .int .i64 enc, .int .i64 why, .string W, .int .i64 e, .string r, .int .i64 g, .bool fr, .bool st] 25)).on hb1)
    have HF1 := hide (((Fb.new w ⟨L, enc, why, W, e, r, (g, fr, st)⟩).alloc (.cells #[.string ⟨#[]⟩, .int .i64 0, .int .i64 0, .string ⟨#[]⟩, .int .i64 0, .string ⟨#[]⟩, .int .i64 0, .bool false, .bool false] 25)).on hb1)
    have HB1 := hide (bstep (bstep (balloc w (.cells #[.string L, .int .i64 enc, .int .i64 why, .string W, .int .i64 e, .string r, .int .i64 g, .bool fr, .bool st] 25)) (balloc _ (.cells #[.string ⟨#[]⟩, .int .i64 0, .int .i64 0, .string ⟨#[]⟩, .int .i64 0, .string ⟨#[]⟩, .int .i64 0, .bool false, .bool false] 25))) hb1)
    have hz1 : w.heap.size + 2 ≤ w1.heap.size := by have := hb1.size; simp at this; omega
    clear hb1 HCk
    obtain ⟨b0, b1, b2, b3, b4, b5, b6, b7, b8, g0, g1, g2, g3, g4, g5, g6, g7, g8⟩ := unhide HR1
    dsimp only [Fr.new, M.st0] at b0 b1 b2 b3 b4 b5 b6 b7 b8
    have hlt := (unhide HR1).lt
    go_wp2_with fail
    refine bodyPost_ret (v := .tuple #[.slice none 0 0, .agg #[.string ⟨#[]⟩, .int .i64 0, .int .i64 0, .string ⟨#[]⟩, .int .i64 0, .string ⟨#[]⟩, .int .i64 0, .bool false, .bool false], .int .i64 K]) (by simp [results, Tryz.results14, go_sem, b0, b1, b2, b3, b4, b5, b6, b7, b8]) rfl ?_
    exact ⟨.slice none 0 0, rfl, Ints.nil _, bput9 (B := w.heap.size + 1) (unhide HB1) (by omega) (Fr.new ⟨#[]⟩)⟩
end Go.Proofs.YtaiinjfnkmidbaaGreatDoor

namespace Go.Proofs.YtaiinjfnkmidbaaGreatDoor
open Go.RowKit
set_option linter.unusedVariables false

end Go.Proofs.YtaiinjfnkmidbaaGreatDoor

namespace Go.Proofs.YtaiinjfnkmidbaaGreatDoor
open Go.RowKit
set_option linter.unusedVariables false


set_option maxHeartbeats 3000000 in
set_option maxRecDepth 100000 in
theorem feedOf_6_more (r : ByteArray) (t : M.St) (p : ByteArray) (w : World) (hs : r.size + p.size ≤ 3300) (hk : M.Sg t.1) :
    Calls Tryz.prog 57 #[sv 6 r t, .string p, .bool false] w (FedR 6 r t p false w) := by
  obtain ⟨s, hcat⟩ : ∃ s, r ++ p = s := ⟨_, rfl⟩
  have hsz : s.size ≤ 3300 := by rw [← hcat, ByteArray.size_append]; exact hs
  have HBL : Hid (bl r ++ bl p = bl s) := hide (by rw [← hcat, bl_app])
  have hcat2 : (r.append p) = s := hcat
  unfold sv
  have H := fun w => decodeKana_more t.1 t.2.1 s w hk hsz
  obtain ⟨L, HL⟩ : ∃ L, Hid ((M.Run M.fk (t.1, t.2.1) (bl s)).1 = L) := ⟨_, hide rfl⟩
  obtain ⟨g, fr, HT⟩ : ∃ g fr, Hid ((M.Run M.fk (t.1, t.2.1) (bl s)).2.1 = (g, fr)) := ⟨_, _, hide rfl⟩
  rw [unhide HL, unhide HT] at H
  go_enter Tryz.func57, Tryz.ntmps57
  go_wp2_with fail
  refine (H _).mono ?_
  rintro e' w1 ⟨v, rr, rfl, hrr, hI, hb⟩
  have HRR := hide hrr
  clear hrr
  obtain ⟨av, cv, hsv⟩ := owns_shape hI
  subst hsv
  have HI : Hid (w1.ownsRow (w.heap.size + 3) 3 1 (.slice av L.length cv) L.length (L.map (Value.int .i64))) := hide (by simpa using hI)
  have HB : Hid (Below w.heap.size w w1) := hide (bstep (bstep (bstep (balloc _ _) (balloc _ _)) (balloc _ _)) hb)
  have h0 : Sc w.heap.size 6 r t w1 := Sc.below (w := (((w.alloc (.cells #[.int .i64 6, .string r, .int .i64 t.1, .bool t.2.1, .bool t.2.2] 23)).alloc (.cells #[.int .i64 0, .string ⟨#[]⟩, .int .i64 0, .bool false, .bool false] 23)).alloc (.cells #[.int .i64 0, .bool false] 144))) (by constructor <;> simp [go_sem]) hb (by simp; omega)
  have h1 : Rc (w.heap.size + 1) w1 := Rc.below (w := (((w.alloc (.cells #[.int .i64 6, .string r, .int .i64 t.1, .bool t.2.1, .bool t.2.2] 23)).alloc (.cells #[.int .i64 0, .string ⟨#[]⟩, .int .i64 0, .bool false, .bool false] 23)).alloc (.cells #[.int .i64 0, .bool false] 144))) (by constructor <;> simp [go_sem]) hb (by simp)
  have h2 : Pc (w.heap.size + 2) 0 false w1 := Pc.below (w := (((w.alloc (.cells #[.int .i64 6, .string r, .int .i64 t.1, .bool t.2.1, .bool t.2.2] 23)).alloc (.cells #[.int .i64 0, .string ⟨#[]⟩, .int .i64 0, .bool false, .bool false] 23)).alloc (.cells #[.int .i64 0, .bool false] 144))) (by constructor <;> simp [go_sem]) hb (by simp)
  have hl := h2.lt
  have hl1 : w.heap.size + 1 < w1.heap.size := by omega
  have hl0 : w.heap.size < w1.heap.size := by omega
  have H0 := hide h0
  have H1 := hide h1
  obtain ⟨a0, a1, a2, a3, a4, x0, x1, x2, x3, x4⟩ := h0
  obtain ⟨b0, b1, b2, b3, b4, y0, y1, y2, y3, y4⟩ := h1
  obtain ⟨p0, p1, q0, q1⟩ := h2
  clear hI hb H hcat hcat2
  go_wp2_with fail
  go_region
  all_goals
    go_wp2_with fail
    have hX0 : Sc w.heap.size 6 rr (g, fr, t.2.2) ((((((w1.setCell { block := w.heap.size + 1 + 1, off := 0 } (Value.int IntKind.i64 g)).setCell { block := w.heap.size + 1 + 1, off := 1 } (Value.bool fr)).setCell { block := w.heap.size, off := 2 } (Value.int IntKind.i64 g)).setCell { block := w.heap.size, off := 3 } (Value.bool fr)).setCell { block := w.heap.size, off := 1 } (Value.string rr)).drew) := ((((((unhide H0).far ⟨w.heap.size + 1 + 1, 0, none⟩ (.int .i64 g) (by first | (simp; done) | (simp; omega))).far ⟨w.heap.size + 1 + 1, 1, none⟩ (.bool fr) (by first | (simp; done) | (simp; omega))).set2 g).set3 fr).set1 rr).drew
    have hX1 : Rc (w.heap.size + 1) ((((((w1.setCell { block := w.heap.size + 1 + 1, off := 0 } (Value.int IntKind.i64 g)).setCell { block := w.heap.size + 1 + 1, off := 1 } (Value.bool fr)).setCell { block := w.heap.size, off := 2 } (Value.int IntKind.i64 g)).setCell { block := w.heap.size, off := 3 } (Value.bool fr)).setCell { block := w.heap.size, off := 1 } (Value.string rr)).drew) := (((((((unhide H1)).far ⟨w.heap.size + 1 + 1, 0, none⟩ _ (by first | (simp; done) | (simp; omega))).far ⟨w.heap.size + 1 + 1, 1, none⟩ _ (by first | (simp; done) | (simp; omega))).far ⟨w.heap.size, 2, none⟩ _ (by first | (simp; done) | (simp; omega))).far ⟨w.heap.size, 3, none⟩ _ (by first | (simp; done) | (simp; omega))).far ⟨w.heap.size, 1, none⟩ _ (by first | (simp; done) | (simp; omega))).drew
    have HX : Hid (((((((w1.setCell { block := w.heap.size + 1 + 1, off := 0 } (Value.int IntKind.i64 g)).setCell { block := w.heap.size + 1 + 1, off := 1 } (Value.bool fr)).setCell { block := w.heap.size, off := 2 } (Value.int IntKind.i64 g)).setCell { block := w.heap.size, off := 3 } (Value.bool fr)).setCell { block := w.heap.size, off := 1 } (Value.string rr)).drew).ownsRow (w.heap.size + 3) 3 1 (.slice av L.length cv) L.length (L.map (Value.int .i64))) := hide (o_drew (owns_set (owns_set (owns_set (owns_set (owns_set (unhide HI) ⟨w.heap.size + 1 + 1, 0, none⟩ (by first | (simp; done) | (simp; omega)) _) ⟨w.heap.size + 1 + 1, 1, none⟩ (by first | (simp; done) | (simp; omega)) _) ⟨w.heap.size, 2, none⟩ (by first | (simp; done) | (simp; omega)) _) ⟨w.heap.size, 3, none⟩ (by first | (simp; done) | (simp; omega)) _) ⟨w.heap.size, 1, none⟩ (by first | (simp; done) | (simp; omega)) _))
    have HY : Hid (Below w.heap.size w ((((((w1.setCell { block := w.heap.size + 1 + 1, off := 0 } (Value.int IntKind.i64 g)).setCell { block := w.heap.size + 1 + 1, off := 1 } (Value.bool fr)).setCell { block := w.heap.size, off := 2 } (Value.int IntKind.i64 g)).setCell { block := w.heap.size, off := 3 } (Value.bool fr)).setCell { block := w.heap.size, off := 1 } (Value.string rr)).drew)) := hide (b_drew (bset (bset (bset (bset (bset (unhide HB) ⟨w.heap.size + 1 + 1, 0, none⟩ _ (by first | (simp; done) | (simp; omega))) ⟨w.heap.size + 1 + 1, 1, none⟩ _ (by first | (simp; done) | (simp; omega))) ⟨w.heap.size, 2, none⟩ _ (by first | (simp; done) | (simp; omega))) ⟨w.heap.size, 3, none⟩ _ (by first | (simp; done) | (simp; omega))) ⟨w.heap.size, 1, none⟩ _ (by first | (simp; done) | (simp; omega))))
    clear a0 a1 a2 a3 a4 x0 x1 x2 x3 x4 b0 b1 b2 b3 b4 y0 y1 y2 y3 y4 p0 p1 q0 q1 hl0 hl1
    generalize (((((w1.setCell { block := w.heap.size + 1 + 1, off := 0 } (Value.int IntKind.i64 g)).setCell { block := w.heap.size + 1 + 1, off := 1 } (Value.bool fr)).setCell { block := w.heap.size, off := 2 } (Value.int IntKind.i64 g)).setCell { block := w.heap.size, off := 3 } (Value.bool fr)).setCell { block := w.heap.size, off := 1 } (Value.string rr)).drew = X at *
    have hlx := hX0.lt
    obtain ⟨a0, a1, a2, a3, a4, -, -, -, -, -⟩ := hX0
    obtain ⟨b0, b1, b2, b3, b4, y0, y1, y2, y3, y4⟩ := hX1
    have hly : w.heap.size + 1 < X.heap.size := World.block_lt_of_cell? X _ b0
    skip
    go_region
    all_goals
      go_wp2_with fail
      refine bodyPost_ret (v := .tuple #[.slice av L.length cv, .agg #[.int .i64 6, .string rr, .int .i64 (g, fr, t.2.2).1, .bool (g, fr, t.2.2).2.1, .bool (g, fr, t.2.2).2.2]]) (by simp [results, Tryz.results57, go_sem, b0, b1, b2, b3, b4]) rfl ?_
      refine ⟨.slice av L.length cv, rr, (g, fr, t.2.2), L, rfl, ?_, ?_, ?_, ?_⟩
      · exact owns_mono (o_drew (oset5 (e := 6) (r := rr) (t := (g, fr, t.2.2)) (unhide HX) (by omega))) (by omega)
      · exact b_drew (bset5 (e := 6) (r := rr) (t := (g, fr, t.2.2)) (unhide HY) (by omega))
      · intro _; rw [unhide HBL, M.RE_K, unhide HT]; exact ⟨(unhide HL).symm, unhide HRR, rfl⟩
      · intro h; cases h

set_option maxHeartbeats 3000000 in
set_option maxRecDepth 100000 in
theorem feedOf_6_last (r : ByteArray) (t : M.St) (p : ByteArray) (w : World) (hs : r.size + p.size ≤ 3300) (hk : M.Sg t.1) :
    Calls Tryz.prog 57 #[sv 6 r t, .string p, .bool true] w (FedR 6 r t p true w) := by
  obtain ⟨s, hcat⟩ : ∃ s, r ++ p = s := ⟨_, rfl⟩
  have hsz : s.size ≤ 3300 := by rw [← hcat, ByteArray.size_append]; exact hs
  have HBL : Hid (bl r ++ bl p = bl s) := hide (by rw [← hcat, bl_app])
  have hcat2 : (r.append p) = s := hcat
  unfold sv
  have H := fun w => decodeKana_last t.1 t.2.1 s w hk hsz
  obtain ⟨L, HL⟩ : ∃ L, Hid ((M.Tot M.gk (t.1, t.2.1) (bl s)).1 = L) := ⟨_, hide rfl⟩
  obtain ⟨g, fr, hT⟩ : ∃ g fr, (M.Tot M.gk (t.1, t.2.1) (bl s)).2 = (g, fr) := ⟨_, _, rfl⟩
  rw [unhide HL, hT] at H
  clear hT
  go_enter Tryz.func57, Tryz.ntmps57
  go_wp2_with fail
  refine (H _).mono ?_
  rintro e' w1 ⟨v, rfl, hI, hb⟩
  obtain ⟨av, cv, hsv⟩ := owns_shape hI
  subst hsv
  have HI : Hid (w1.ownsRow (w.heap.size + 3) 3 1 (.slice av L.length cv) L.length (L.map (Value.int .i64))) := hide (by simpa using hI)
  have HB : Hid (Below w.heap.size w w1) := hide (bstep (bstep (bstep (balloc _ _) (balloc _ _)) (balloc _ _)) hb)
  have h0 : Sc w.heap.size 6 r t w1 := Sc.below (w := (((w.alloc (.cells #[.int .i64 6, .string r, .int .i64 t.1, .bool t.2.1, .bool t.2.2] 23)).alloc (.cells #[.int .i64 0, .string ⟨#[]⟩, .int .i64 0, .bool false, .bool false] 23)).alloc (.cells #[.int .i64 0, .bool false] 144))) (by constructor <;> simp [go_sem]) hb (by simp; omega)
  have h1 : Rc (w.heap.size + 1) w1 := Rc.below (w := (((w.alloc (.cells #[.int .i64 6, .string r, .int .i64 t.1, .bool t.2.1, .bool t.2.2] 23)).alloc (.cells #[.int .i64 0, .string ⟨#[]⟩, .int .i64 0, .bool false, .bool false] 23)).alloc (.cells #[.int .i64 0, .bool false] 144))) (by constructor <;> simp [go_sem]) hb (by simp)
  have h2 : Pc (w.heap.size + 2) 0 false w1 := Pc.below (w := (((w.alloc (.cells #[.int .i64 6, .string r, .int .i64 t.1, .bool t.2.1, .bool t.2.2] 23)).alloc (.cells #[.int .i64 0, .string ⟨#[]⟩, .int .i64 0, .bool false, .bool false] 23)).alloc (.cells #[.int .i64 0, .bool false] 144))) (by constructor <;> simp [go_sem]) hb (by simp)
  have hl := h2.lt
  have hl1 : w.heap.size + 1 < w1.heap.size := by omega
  have hl0 : w.heap.size < w1.heap.size := by omega
  have H0 := hide h0
  have H1 := hide h1
  obtain ⟨a0, a1, a2, a3, a4, x0, x1, x2, x3, x4⟩ := h0
  obtain ⟨b0, b1, b2, b3, b4, y0, y1, y2, y3, y4⟩ := h1
  obtain ⟨p0, p1, q0, q1⟩ := h2
  clear hI hb H hcat hcat2
  go_wp2_with fail
  go_region
  all_goals
    go_wp2_with fail
    have hX0 : Sc w.heap.size 6 ⟨#[]⟩ M.st0 (((((((((((w1.setCell { block := w.heap.size + 1 + 1, off := 0 } (Value.int IntKind.i64 g)).setCell { block := w.heap.size + 1 + 1, off := 1 } (Value.bool fr)).setCell { block := w.heap.size, off := 2 } (Value.int IntKind.i64 g)).setCell { block := w.heap.size, off := 3 } (Value.bool fr)).setCell { block := w.heap.size, off := 1 } (Value.string { data := #[] })).setCell { block := w.heap.size, off := 0 } (Value.int IntKind.i64 6)).setCell { block := w.heap.size, off := 1 } (Value.string { data := #[] })).setCell { block := w.heap.size, off := 2 } (Value.int IntKind.i64 0)).setCell { block := w.heap.size, off := 3 } (Value.bool false)).setCell { block := w.heap.size, off := 4 } (Value.bool false)).drew) := (((((((unhide H0).far ⟨w.heap.size + 1 + 1, 0, none⟩ (.int .i64 g) (by first | (simp; done) | (simp; omega))).far ⟨w.heap.size + 1 + 1, 1, none⟩ (.bool fr) (by first | (simp; done) | (simp; omega))).set2 g).set3 fr).set1 ⟨#[]⟩).rc 6 ⟨#[]⟩ M.st0).drew
    have hX1 : Rc (w.heap.size + 1) (((((((((((w1.setCell { block := w.heap.size + 1 + 1, off := 0 } (Value.int IntKind.i64 g)).setCell { block := w.heap.size + 1 + 1, off := 1 } (Value.bool fr)).setCell { block := w.heap.size, off := 2 } (Value.int IntKind.i64 g)).setCell { block := w.heap.size, off := 3 } (Value.bool fr)).setCell { block := w.heap.size, off := 1 } (Value.string { data := #[] })).setCell { block := w.heap.size, off := 0 } (Value.int IntKind.i64 6)).setCell { block := w.heap.size, off := 1 } (Value.string { data := #[] })).setCell { block := w.heap.size, off := 2 } (Value.int IntKind.i64 0)).setCell { block := w.heap.size, off := 3 } (Value.bool false)).setCell { block := w.heap.size, off := 4 } (Value.bool false)).drew) := ((((((((((((unhide H1)).far ⟨w.heap.size + 1 + 1, 0, none⟩ _ (by first | (simp; done) | (simp; omega))).far ⟨w.heap.size + 1 + 1, 1, none⟩ _ (by first | (simp; done) | (simp; omega))).far ⟨w.heap.size, 2, none⟩ _ (by first | (simp; done) | (simp; omega))).far ⟨w.heap.size, 3, none⟩ _ (by first | (simp; done) | (simp; omega))).far ⟨w.heap.size, 1, none⟩ _ (by first | (simp; done) | (simp; omega))).far ⟨w.heap.size, 0, none⟩ _ (by first | (simp; done) | (simp; omega))).far ⟨w.heap.size, 1, none⟩ _ (by first | (simp; done) | (simp; omega))).far ⟨w.heap.size, 2, none⟩ _ (by first | (simp; done) | (simp; omega))).far ⟨w.heap.size, 3, none⟩ _ (by first | (simp; done) | (simp; omega))).far ⟨w.heap.size, 4, none⟩ _ (by first | (simp; done) | (simp; omega))).drew
    have HX : Hid ((((((((((((w1.setCell { block := w.heap.size + 1 + 1, off := 0 } (Value.int IntKind.i64 g)).setCell { block := w.heap.size + 1 + 1, off := 1 } (Value.bool fr)).setCell { block := w.heap.size, off := 2 } (Value.int IntKind.i64 g)).setCell { block := w.heap.size, off := 3 } (Value.bool fr)).setCell { block := w.heap.size, off := 1 } (Value.string { data := #[] })).setCell { block := w.heap.size, off := 0 } (Value.int IntKind.i64 6)).setCell { block := w.heap.size, off := 1 } (Value.string { data := #[] })).setCell { block := w.heap.size, off := 2 } (Value.int IntKind.i64 0)).setCell { block := w.heap.size, off := 3 } (Value.bool false)).setCell { block := w.heap.size, off := 4 } (Value.bool false)).drew).ownsRow (w.heap.size + 3) 3 1 (.slice av L.length cv) L.length (L.map (Value.int .i64))) := hide (o_drew (owns_set (owns_set (owns_set (owns_set (owns_set (owns_set (owns_set (owns_set (owns_set (owns_set (unhide HI) ⟨w.heap.size + 1 + 1, 0, none⟩ (by first | (simp; done) | (simp; omega)) _) ⟨w.heap.size + 1 + 1, 1, none⟩ (by first | (simp; done) | (simp; omega)) _) ⟨w.heap.size, 2, none⟩ (by first | (simp; done) | (simp; omega)) _) ⟨w.heap.size, 3, none⟩ (by first | (simp; done) | (simp; omega)) _) ⟨w.heap.size, 1, none⟩ (by first | (simp; done) | (simp; omega)) _) ⟨w.heap.size, 0, none⟩ (by first | (simp; done) | (simp; omega)) _) ⟨w.heap.size, 1, none⟩ (by first | (simp; done) | (simp; omega)) _) ⟨w.heap.size, 2, none⟩ (by first | (simp; done) | (simp; omega)) _) ⟨w.heap.size, 3, none⟩ (by first | (simp; done) | (simp; omega)) _) ⟨w.heap.size, 4, none⟩ (by first | (simp; done) | (simp; omega)) _))
    have HY : Hid (Below w.heap.size w (((((((((((w1.setCell { block := w.heap.size + 1 + 1, off := 0 } (Value.int IntKind.i64 g)).setCell { block := w.heap.size + 1 + 1, off := 1 } (Value.bool fr)).setCell { block := w.heap.size, off := 2 } (Value.int IntKind.i64 g)).setCell { block := w.heap.size, off := 3 } (Value.bool fr)).setCell { block := w.heap.size, off := 1 } (Value.string { data := #[] })).setCell { block := w.heap.size, off := 0 } (Value.int IntKind.i64 6)).setCell { block := w.heap.size, off := 1 } (Value.string { data := #[] })).setCell { block := w.heap.size, off := 2 } (Value.int IntKind.i64 0)).setCell { block := w.heap.size, off := 3 } (Value.bool false)).setCell { block := w.heap.size, off := 4 } (Value.bool false)).drew)) := hide (b_drew (bset (bset (bset (bset (bset (bset (bset (bset (bset (bset (unhide HB) ⟨w.heap.size + 1 + 1, 0, none⟩ _ (by first | (simp; done) | (simp; omega))) ⟨w.heap.size + 1 + 1, 1, none⟩ _ (by first | (simp; done) | (simp; omega))) ⟨w.heap.size, 2, none⟩ _ (by first | (simp; done) | (simp; omega))) ⟨w.heap.size, 3, none⟩ _ (by first | (simp; done) | (simp; omega))) ⟨w.heap.size, 1, none⟩ _ (by first | (simp; done) | (simp; omega))) ⟨w.heap.size, 0, none⟩ _ (by first | (simp; done) | (simp; omega))) ⟨w.heap.size, 1, none⟩ _ (by first | (simp; done) | (simp; omega))) ⟨w.heap.size, 2, none⟩ _ (by first | (simp; done) | (simp; omega))) ⟨w.heap.size, 3, none⟩ _ (by first | (simp; done) | (simp; omega))) ⟨w.heap.size, 4, none⟩ _ (by first | (simp; done) | (simp; omega))))
    clear a0 a1 a2 a3 a4 x0 x1 x2 x3 x4 b0 b1 b2 b3 b4 y0 y1 y2 y3 y4 p0 p1 q0 q1 hl0 hl1
    generalize ((((((((((w1.setCell { block := w.heap.size + 1 + 1, off := 0 } (Value.int IntKind.i64 g)).setCell { block := w.heap.size + 1 + 1, off := 1 } (Value.bool fr)).setCell { block := w.heap.size, off := 2 } (Value.int IntKind.i64 g)).setCell { block := w.heap.size, off := 3 } (Value.bool fr)).setCell { block := w.heap.size, off := 1 } (Value.string { data := #[] })).setCell { block := w.heap.size, off := 0 } (Value.int IntKind.i64 6)).setCell { block := w.heap.size, off := 1 } (Value.string { data := #[] })).setCell { block := w.heap.size, off := 2 } (Value.int IntKind.i64 0)).setCell { block := w.heap.size, off := 3 } (Value.bool false)).setCell { block := w.heap.size, off := 4 } (Value.bool false)).drew = X at *
    have hlx := hX0.lt
    obtain ⟨a0, a1, a2, a3, a4, -, -, -, -, -⟩ := hX0
    obtain ⟨b0, b1, b2, b3, b4, y0, y1, y2, y3, y4⟩ := hX1
    have hly : w.heap.size + 1 < X.heap.size := World.block_lt_of_cell? X _ b0
    unfold M.st0 at a2 a3 a4
    go_region
    all_goals
      go_wp2_with fail
      refine bodyPost_ret (v := .tuple #[.slice av L.length cv, .agg #[.int .i64 6, .string ⟨#[]⟩, .int .i64 M.st0.1, .bool M.st0.2.1, .bool M.st0.2.2]]) (by simp [results, Tryz.results57, go_sem, b0, b1, b2, b3, b4, M.st0]) rfl ?_
      refine ⟨.slice av L.length cv, ⟨#[]⟩, M.st0, L, rfl, ?_, ?_, ?_, ?_⟩
      · exact owns_mono (o_drew (oset5 (e := 6) (r := ⟨#[]⟩) (t := M.st0) (unhide HX) (by omega))) (by omega)
      · exact b_drew (bset5 (e := 6) (r := ⟨#[]⟩) (t := M.st0) (unhide HY) (by omega))
      · intro h; cases h
      · intro _; refine ⟨?_, rfl, rfl⟩; rw [unhide HBL, M.TE_K]; exact (unhide HL).symm

set_option maxHeartbeats 3000000 in
set_option maxRecDepth 100000 in
theorem feedOf_7_none_more (r : ByteArray) (g : Int) (fr st : Bool) (p : ByteArray) (w : World) (hs : r.size + p.size ≤ 3300) (h0 : (r ++ p).size = 0) :
    Calls Tryz.prog 57 #[sv 7 r (g, fr, st), .string p, .bool false] w (FedR 7 r (g, fr, st) p false w) := by
  obtain ⟨s, hcat⟩ : ∃ s, r ++ p = s := ⟨_, rfl⟩
  have hsz : s.size ≤ 3300 := by rw [← hcat, ByteArray.size_append]; exact hs
  have HBL : Hid (bl r ++ bl p = bl s) := hide (by rw [← hcat, bl_app])
  have hcat2 : (r.append p) = s := hcat
  unfold sv
  rw [hcat] at h0
  have he : s.toList.isEmpty = true := by rw [isEmpty_size]; simp [h0]
  go_enter Tryz.func57, Tryz.ntmps57
  go_wp2_with fail
  have hX0 : Sc w.heap.size 7 ⟨#[]⟩ (g, fr, st) ((w.alloc (.cells #[.int .i64 7, .string ⟨#[]⟩, .int .i64 g, .bool fr, .bool st] 23)).alloc (.cells #[.int .i64 0, .string ⟨#[]⟩, .int .i64 0, .bool false, .bool false] 23)) := by constructor <;> simp [go_sem]
  have hX1 : Rc (w.heap.size + 1) ((w.alloc (.cells #[.int .i64 7, .string ⟨#[]⟩, .int .i64 g, .bool fr, .bool st] 23)).alloc (.cells #[.int .i64 0, .string ⟨#[]⟩, .int .i64 0, .bool false, .bool false] 23)) := by constructor <;> simp [go_sem]
  have HX : Hid (((w.alloc (.cells #[.int .i64 7, .string ⟨#[]⟩, .int .i64 g, .bool fr, .bool st] 23)).alloc (.cells #[.int .i64 0, .string ⟨#[]⟩, .int .i64 0, .bool false, .bool false] 23)).ownsRow (w.heap.size + 2) 3 1 (.slice none 0 0) ([] : List Int).length (([] : List Int).map (Value.int .i64))) := hide (World.ownsRow_nil _ _ _ _)
  have HY : Hid (Below w.heap.size w ((w.alloc (.cells #[.int .i64 7, .string ⟨#[]⟩, .int .i64 g, .bool fr, .bool st] 23)).alloc (.cells #[.int .i64 0, .string ⟨#[]⟩, .int .i64 0, .bool false, .bool false] 23))) := hide (bstep (balloc _ _) (balloc _ _))
  generalize (w.alloc (.cells #[.int .i64 7, .string ⟨#[]⟩, .int .i64 g, .bool fr, .bool st] 23)).alloc (.cells #[.int .i64 0, .string ⟨#[]⟩, .int .i64 0, .bool false, .bool false] 23) = X at *
  have hlx := hX0.lt
  obtain ⟨a0, a1, a2, a3, a4, -, -, -, -, -⟩ := hX0
  obtain ⟨b0, b1, b2, b3, b4, y0, y1, y2, y3, y4⟩ := hX1
  have hly : w.heap.size + 1 < X.heap.size := World.block_lt_of_cell? X _ b0
  skip
  go_region
  all_goals
    go_wp2_with fail
    refine bodyPost_ret (v := .tuple #[.slice none 0 0, .agg #[.int .i64 7, .string ⟨#[]⟩, .int .i64 (g, fr, st).1, .bool (g, fr, st).2.1, .bool (g, fr, st).2.2]]) (by simp [results, Tryz.results57, go_sem, b0, b1, b2, b3, b4]) rfl ?_
    refine ⟨.slice none 0 0, ⟨#[]⟩, (g, fr, st), [], rfl, ?_, ?_, ?_, ?_⟩
    · exact owns_mono (o_drew (oset5 (e := 7) (r := ⟨#[]⟩) (t := (g, fr, st)) (unhide HX) (by omega))) (by omega)
    · exact b_drew (bset5 (e := 7) (r := ⟨#[]⟩) (t := (g, fr, st)) (unhide HY) (by omega))
    · intro _; rw [unhide HBL, M.RE_X]; have e0 : (bl s).isEmpty = true := (by rw [bl_nil h0]; rfl); refine ⟨by simp [e0], rfl, by simp [e0]⟩
    · intro h; cases h

set_option maxHeartbeats 3000000 in
set_option maxRecDepth 100000 in
theorem feedOf_7_stop_more (r : ByteArray) (g : Int) (fr : Bool) (p : ByteArray) (w : World) (hs : r.size + p.size ≤ 3300) (h0 : (r ++ p).size ≠ 0) :
    Calls Tryz.prog 57 #[sv 7 r (g, fr, true), .string p, .bool false] w (FedR 7 r (g, fr, true) p false w) := by
  obtain ⟨s, hcat⟩ : ∃ s, r ++ p = s := ⟨_, rfl⟩
  have hsz : s.size ≤ 3300 := by rw [← hcat, ByteArray.size_append]; exact hs
  have HBL : Hid (bl r ++ bl p = bl s) := hide (by rw [← hcat, bl_app])
  have hcat2 : (r.append p) = s := hcat
  unfold sv
  rw [hcat] at h0
  have he : s.toList.isEmpty = false := by rw [isEmpty_size]; simp [h0]
  go_enter Tryz.func57, Tryz.ntmps57
  go_wp2_with fail
  have hX0 : Sc w.heap.size 7 ⟨#[]⟩ (g, fr, true) ((w.alloc (.cells #[.int .i64 7, .string ⟨#[]⟩, .int .i64 g, .bool fr, .bool true] 23)).alloc (.cells #[.int .i64 0, .string ⟨#[]⟩, .int .i64 0, .bool false, .bool false] 23)) := by constructor <;> simp [go_sem]
  have hX1 : Rc (w.heap.size + 1) ((w.alloc (.cells #[.int .i64 7, .string ⟨#[]⟩, .int .i64 g, .bool fr, .bool true] 23)).alloc (.cells #[.int .i64 0, .string ⟨#[]⟩, .int .i64 0, .bool false, .bool false] 23)) := by constructor <;> simp [go_sem]
  have HX : Hid (((w.alloc (.cells #[.int .i64 7, .string ⟨#[]⟩, .int .i64 g, .bool fr, .bool true] 23)).alloc (.cells #[.int .i64 0, .string ⟨#[]⟩, .int .i64 0, .bool false, .bool false] 23)).ownsRow (w.heap.size + 2) 3 1 (.slice none 0 0) ([] : List Int).length (([] : List Int).map (Value.int .i64))) := hide (World.ownsRow_nil _ _ _ _)
  have HY : Hid (Below w.heap.size w ((w.alloc (.cells #[.int .i64 7, .string ⟨#[]⟩, .int .i64 g, .bool fr, .bool true] 23)).alloc (.cells #[.int .i64 0, .string ⟨#[]⟩, .int .i64 0, .bool false, .bool false] 23))) := hide (bstep (balloc _ _) (balloc _ _))
  generalize (w.alloc (.cells #[.int .i64 7, .string ⟨#[]⟩, .int .i64 g, .bool fr, .bool true] 23)).alloc (.cells #[.int .i64 0, .string ⟨#[]⟩, .int .i64 0, .bool false, .bool false] 23) = X at *
  have hlx := hX0.lt
  obtain ⟨a0, a1, a2, a3, a4, -, -, -, -, -⟩ := hX0
  obtain ⟨b0, b1, b2, b3, b4, y0, y1, y2, y3, y4⟩ := hX1
  have hly : w.heap.size + 1 < X.heap.size := World.block_lt_of_cell? X _ b0
  skip
  go_region
  all_goals
    go_wp2_with fail
    refine bodyPost_ret (v := .tuple #[.slice none 0 0, .agg #[.int .i64 7, .string ⟨#[]⟩, .int .i64 (g, fr, true).1, .bool (g, fr, true).2.1, .bool (g, fr, true).2.2]]) (by simp [results, Tryz.results57, go_sem, b0, b1, b2, b3, b4]) rfl ?_
    refine ⟨.slice none 0 0, ⟨#[]⟩, (g, fr, true), [], rfl, ?_, ?_, ?_, ?_⟩
    · exact owns_mono (o_drew (oset5 (e := 7) (r := ⟨#[]⟩) (t := (g, fr, true)) (unhide HX) (by omega))) (by omega)
    · exact b_drew (bset5 (e := 7) (r := ⟨#[]⟩) (t := (g, fr, true)) (unhide HY) (by omega))
    · intro _; rw [unhide HBL, M.RE_X]; skip; refine ⟨by simp, rfl, by simp⟩
    · intro h; cases h

set_option maxHeartbeats 3000000 in
set_option maxRecDepth 100000 in
theorem feedOf_7_told_more (r : ByteArray) (g : Int) (fr : Bool) (p : ByteArray) (w : World) (hs : r.size + p.size ≤ 3300) (h0 : (r ++ p).size ≠ 0) :
    Calls Tryz.prog 57 #[sv 7 r (g, fr, false), .string p, .bool false] w (FedR 7 r (g, fr, false) p false w) := by
  obtain ⟨s, hcat⟩ : ∃ s, r ++ p = s := ⟨_, rfl⟩
  have hsz : s.size ≤ 3300 := by rw [← hcat, ByteArray.size_append]; exact hs
  have HBL : Hid (bl r ++ bl p = bl s) := hide (by rw [← hcat, bl_app])
  have hcat2 : (r.append p) = s := hcat
  unfold sv
  rw [hcat] at h0
  have he : s.toList.isEmpty = false := by rw [isEmpty_size]; simp [h0]
  go_enter Tryz.func57, Tryz.ntmps57
  go_wp2_with fail
  have hX0 : Sc w.heap.size 7 ⟨#[]⟩ (g, fr, true) (((w.alloc (.cells #[.int .i64 7, .string ⟨#[]⟩, .int .i64 g, .bool fr, .bool true] 23)).alloc (.cells #[.int .i64 0, .string ⟨#[]⟩, .int .i64 0, .bool false, .bool false] 23)).alloc (.cells #[.int .i64 65533] 3)) := by constructor <;> simp [go_sem]
  have hX1 : Rc (w.heap.size + 1) (((w.alloc (.cells #[.int .i64 7, .string ⟨#[]⟩, .int .i64 g, .bool fr, .bool true] 23)).alloc (.cells #[.int .i64 0, .string ⟨#[]⟩, .int .i64 0, .bool false, .bool false] 23)).alloc (.cells #[.int .i64 65533] 3)) := by constructor <;> simp [go_sem]
  have HX : Hid ((((w.alloc (.cells #[.int .i64 7, .string ⟨#[]⟩, .int .i64 g, .bool fr, .bool true] 23)).alloc (.cells #[.int .i64 0, .string ⟨#[]⟩, .int .i64 0, .bool false, .bool false] 23)).alloc (.cells #[.int .i64 65533] 3)).ownsRow (w.heap.size + 2) 3 1 (.slice (some ⟨w.heap.size + 1 + 1, 0, none⟩) 1 1) ([65533] : List Int).length (([65533] : List Int).map (Value.int .i64))) := hide (by have h := World.ownsRow_lit (base := w.heap.size + 2) (e := 3) (size := 1) ((w.alloc (.cells #[.int .i64 7, .string ⟨#[]⟩, .int .i64 g, .bool fr, .bool true] 23)).alloc (.cells #[.int .i64 0, .string ⟨#[]⟩, .int .i64 0, .bool false, .bool false] 23)) #[.int .i64 65533] 1 (by simp) (by simp [maxLen]) rfl; simpa using h)
  have HY : Hid (Below w.heap.size w (((w.alloc (.cells #[.int .i64 7, .string ⟨#[]⟩, .int .i64 g, .bool fr, .bool true] 23)).alloc (.cells #[.int .i64 0, .string ⟨#[]⟩, .int .i64 0, .bool false, .bool false] 23)).alloc (.cells #[.int .i64 65533] 3))) := hide (bstep (bstep (balloc _ _) (balloc _ _)) (balloc _ _))
  generalize ((w.alloc (.cells #[.int .i64 7, .string ⟨#[]⟩, .int .i64 g, .bool fr, .bool true] 23)).alloc (.cells #[.int .i64 0, .string ⟨#[]⟩, .int .i64 0, .bool false, .bool false] 23)).alloc (.cells #[.int .i64 65533] 3) = X at *
  have hlx := hX0.lt
  obtain ⟨a0, a1, a2, a3, a4, -, -, -, -, -⟩ := hX0
  obtain ⟨b0, b1, b2, b3, b4, y0, y1, y2, y3, y4⟩ := hX1
  have hly : w.heap.size + 1 < X.heap.size := World.block_lt_of_cell? X _ b0
  skip
  go_region
  all_goals
    go_wp2_with fail
    refine bodyPost_ret (v := .tuple #[.slice (some ⟨w.heap.size + 1 + 1, 0, none⟩) 1 1, .agg #[.int .i64 7, .string ⟨#[]⟩, .int .i64 (g, fr, true).1, .bool (g, fr, true).2.1, .bool (g, fr, true).2.2]]) (by simp [results, Tryz.results57, go_sem, b0, b1, b2, b3, b4]) rfl ?_
    refine ⟨.slice (some ⟨w.heap.size + 1 + 1, 0, none⟩) 1 1, ⟨#[]⟩, (g, fr, true), [65533], rfl, ?_, ?_, ?_, ?_⟩
    · exact owns_mono (o_drew (oset5 (e := 7) (r := ⟨#[]⟩) (t := (g, fr, true)) (unhide HX) (by omega))) (by omega)
    · exact b_drew (bset5 (e := 7) (r := ⟨#[]⟩) (t := (g, fr, true)) (unhide HY) (by omega))
    · intro _; rw [unhide HBL, M.RE_X]; have e0 : (bl s).isEmpty = false := (by rw [List.isEmpty_eq_false_iff]; exact fun q => h0 (by rw [← bl_len, q]; rfl)); refine ⟨by simp [e0], rfl, by simp [e0]⟩
    · intro h; cases h

set_option maxHeartbeats 3000000 in
set_option maxRecDepth 100000 in
theorem feedOf_7_none_last (r : ByteArray) (g : Int) (fr st : Bool) (p : ByteArray) (w : World) (hs : r.size + p.size ≤ 3300) (h0 : (r ++ p).size = 0) :
    Calls Tryz.prog 57 #[sv 7 r (g, fr, st), .string p, .bool true] w (FedR 7 r (g, fr, st) p true w) := by
  obtain ⟨s, hcat⟩ : ∃ s, r ++ p = s := ⟨_, rfl⟩
  have hsz : s.size ≤ 3300 := by rw [← hcat, ByteArray.size_append]; exact hs
  have HBL : Hid (bl r ++ bl p = bl s) := hide (by rw [← hcat, bl_app])
  have hcat2 : (r.append p) = s := hcat
  unfold sv
  rw [hcat] at h0
  have he : s.toList.isEmpty = true := by rw [isEmpty_size]; simp [h0]
  go_enter Tryz.func57, Tryz.ntmps57
  go_wp2_with fail
  have hX0 : Sc w.heap.size 7 ⟨#[]⟩ M.st0 ((w.alloc (.cells #[.int .i64 7, .string ⟨#[]⟩, .int .i64 0, .bool false, .bool false] 23)).alloc (.cells #[.int .i64 0, .string ⟨#[]⟩, .int .i64 0, .bool false, .bool false] 23)) := by constructor <;> simp [go_sem, M.st0]
  have hX1 : Rc (w.heap.size + 1) ((w.alloc (.cells #[.int .i64 7, .string ⟨#[]⟩, .int .i64 0, .bool false, .bool false] 23)).alloc (.cells #[.int .i64 0, .string ⟨#[]⟩, .int .i64 0, .bool false, .bool false] 23)) := by constructor <;> simp [go_sem]
  have HX : Hid (((w.alloc (.cells #[.int .i64 7, .string ⟨#[]⟩, .int .i64 0, .bool false, .bool false] 23)).alloc (.cells #[.int .i64 0, .string ⟨#[]⟩, .int .i64 0, .bool false, .bool false] 23)).ownsRow (w.heap.size + 2) 3 1 (.slice none 0 0) ([] : List Int).length (([] : List Int).map (Value.int .i64))) := hide (World.ownsRow_nil _ _ _ _)
  have HY : Hid (Below w.heap.size w ((w.alloc (.cells #[.int .i64 7, .string ⟨#[]⟩, .int .i64 0, .bool false, .bool false] 23)).alloc (.cells #[.int .i64 0, .string ⟨#[]⟩, .int .i64 0, .bool false, .bool false] 23))) := hide (bstep (balloc _ _) (balloc _ _))
  generalize (w.alloc (.cells #[.int .i64 7, .string ⟨#[]⟩, .int .i64 0, .bool false, .bool false] 23)).alloc (.cells #[.int .i64 0, .string ⟨#[]⟩, .int .i64 0, .bool false, .bool false] 23) = X at *
  have hlx := hX0.lt
  obtain ⟨a0, a1, a2, a3, a4, -, -, -, -, -⟩ := hX0
  obtain ⟨b0, b1, b2, b3, b4, y0, y1, y2, y3, y4⟩ := hX1
  have hly : w.heap.size + 1 < X.heap.size := World.block_lt_of_cell? X _ b0
  unfold M.st0 at a2 a3 a4
  go_region
  all_goals
    go_wp2_with fail
    refine bodyPost_ret (v := .tuple #[.slice none 0 0, .agg #[.int .i64 7, .string ⟨#[]⟩, .int .i64 M.st0.1, .bool M.st0.2.1, .bool M.st0.2.2]]) (by simp [results, Tryz.results57, go_sem, b0, b1, b2, b3, b4, M.st0]) rfl ?_
    refine ⟨.slice none 0 0, ⟨#[]⟩, M.st0, [], rfl, ?_, ?_, ?_, ?_⟩
    · exact owns_mono (o_drew (oset5 (e := 7) (r := ⟨#[]⟩) (t := M.st0) (unhide HX) (by omega))) (by omega)
    · exact b_drew (bset5 (e := 7) (r := ⟨#[]⟩) (t := M.st0) (unhide HY) (by omega))
    · intro h; cases h
    · intro _; refine ⟨?_, rfl, rfl⟩; rw [unhide HBL, M.TE_X]; have e0 : (bl s).isEmpty = true := (by rw [bl_nil h0]; rfl); simp [e0]

set_option maxHeartbeats 3000000 in
set_option maxRecDepth 100000 in
theorem feedOf_7_stop_last (r : ByteArray) (g : Int) (fr : Bool) (p : ByteArray) (w : World) (hs : r.size + p.size ≤ 3300) (h0 : (r ++ p).size ≠ 0) :
    Calls Tryz.prog 57 #[sv 7 r (g, fr, true), .string p, .bool true] w (FedR 7 r (g, fr, true) p true w) := by
  obtain ⟨s, hcat⟩ : ∃ s, r ++ p = s := ⟨_, rfl⟩
  have hsz : s.size ≤ 3300 := by rw [← hcat, ByteArray.size_append]; exact hs
  have HBL : Hid (bl r ++ bl p = bl s) := hide (by rw [← hcat, bl_app])
  have hcat2 : (r.append p) = s := hcat
  unfold sv
  rw [hcat] at h0
  have he : s.toList.isEmpty = false := by rw [isEmpty_size]; simp [h0]
  go_enter Tryz.func57, Tryz.ntmps57
  go_wp2_with fail
  have hX0 : Sc w.heap.size 7 ⟨#[]⟩ M.st0 ((w.alloc (.cells #[.int .i64 7, .string ⟨#[]⟩, .int .i64 0, .bool false, .bool false] 23)).alloc (.cells #[.int .i64 0, .string ⟨#[]⟩, .int .i64 0, .bool false, .bool false] 23)) := by constructor <;> simp [go_sem, M.st0]
  have hX1 : Rc (w.heap.size + 1) ((w.alloc (.cells #[.int .i64 7, .string ⟨#[]⟩, .int .i64 0, .bool false, .bool false] 23)).alloc (.cells #[.int .i64 0, .string ⟨#[]⟩, .int .i64 0, .bool false, .bool false] 23)) := by constructor <;> simp [go_sem]
  have HX : Hid (((w.alloc (.cells #[.int .i64 7, .string ⟨#[]⟩, .int .i64 0, .bool false, .bool false] 23)).alloc (.cells #[.int .i64 0, .string ⟨#[]⟩, .int .i64 0, .bool false, .bool false] 23)).ownsRow (w.heap.size + 2) 3 1 (.slice none 0 0) ([] : List Int).length (([] : List Int).map (Value.int .i64))) := hide (World.ownsRow_nil _ _ _ _)
  have HY : Hid (Below w.heap.size w ((w.alloc (.cells #[.int .i64 7, .string ⟨#[]⟩, .int .i64 0, .bool false, .bool false] 23)).alloc (.cells #[.int .i64 0, .string ⟨#[]⟩, .int .i64 0, .bool false, .bool false] 23))) := hide (bstep (balloc _ _) (balloc _ _))
  generalize (w.alloc (.cells #[.int .i64 7, .string ⟨#[]⟩, .int .i64 0, .bool false, .bool false] 23)).alloc (.cells #[.int .i64 0, .string ⟨#[]⟩, .int .i64 0, .bool false, .bool false] 23) = X at *
  have hlx := hX0.lt
  obtain ⟨a0, a1, a2, a3, a4, -, -, -, -, -⟩ := hX0
  obtain ⟨b0, b1, b2, b3, b4, y0, y1, y2, y3, y4⟩ := hX1
  have hly : w.heap.size + 1 < X.heap.size := World.block_lt_of_cell? X _ b0
  unfold M.st0 at a2 a3 a4
  go_region
  all_goals
    go_wp2_with fail
    refine bodyPost_ret (v := .tuple #[.slice none 0 0, .agg #[.int .i64 7, .string ⟨#[]⟩, .int .i64 M.st0.1, .bool M.st0.2.1, .bool M.st0.2.2]]) (by simp [results, Tryz.results57, go_sem, b0, b1, b2, b3, b4, M.st0]) rfl ?_
    refine ⟨.slice none 0 0, ⟨#[]⟩, M.st0, [], rfl, ?_, ?_, ?_, ?_⟩
    · exact owns_mono (o_drew (oset5 (e := 7) (r := ⟨#[]⟩) (t := M.st0) (unhide HX) (by omega))) (by omega)
    · exact b_drew (bset5 (e := 7) (r := ⟨#[]⟩) (t := M.st0) (unhide HY) (by omega))
    · intro h; cases h
    · intro _; refine ⟨?_, rfl, rfl⟩; rw [unhide HBL, M.TE_X]; skip; simp

set_option maxHeartbeats 3000000 in
set_option maxRecDepth 100000 in
theorem feedOf_7_told_last (r : ByteArray) (g : Int) (fr : Bool) (p : ByteArray) (w : World) (hs : r.size + p.size ≤ 3300) (h0 : (r ++ p).size ≠ 0) :
    Calls Tryz.prog 57 #[sv 7 r (g, fr, false), .string p, .bool true] w (FedR 7 r (g, fr, false) p true w) := by
  obtain ⟨s, hcat⟩ : ∃ s, r ++ p = s := ⟨_, rfl⟩
  have hsz : s.size ≤ 3300 := by rw [← hcat, ByteArray.size_append]; exact hs
  have HBL : Hid (bl r ++ bl p = bl s) := hide (by rw [← hcat, bl_app])
  have hcat2 : (r.append p) = s := hcat
  unfold sv
  rw [hcat] at h0
  have he : s.toList.isEmpty = false := by rw [isEmpty_size]; simp [h0]
  go_enter Tryz.func57, Tryz.ntmps57
  go_wp2_with fail
  have hX0 : Sc w.heap.size 7 ⟨#[]⟩ M.st0 (((w.alloc (.cells #[.int .i64 7, .string ⟨#[]⟩, .int .i64 0, .bool false, .bool false] 23)).alloc (.cells #[.int .i64 0, .string ⟨#[]⟩, .int .i64 0, .bool false, .bool false] 23)).alloc (.cells #[.int .i64 65533] 3)) := by constructor <;> simp [go_sem, M.st0]
  have hX1 : Rc (w.heap.size + 1) (((w.alloc (.cells #[.int .i64 7, .string ⟨#[]⟩, .int .i64 0, .bool false, .bool false] 23)).alloc (.cells #[.int .i64 0, .string ⟨#[]⟩, .int .i64 0, .bool false, .bool false] 23)).alloc (.cells #[.int .i64 65533] 3)) := by constructor <;> simp [go_sem]
  have HX : Hid ((((w.alloc (.cells #[.int .i64 7, .string ⟨#[]⟩, .int .i64 0, .bool false, .bool false] 23)).alloc (.cells #[.int .i64 0, .string ⟨#[]⟩, .int .i64 0, .bool false, .bool false] 23)).alloc (.cells #[.int .i64 65533] 3)).ownsRow (w.heap.size + 2) 3 1 (.slice (some ⟨w.heap.size + 1 + 1, 0, none⟩) 1 1) ([65533] : List Int).length (([65533] : List Int).map (Value.int .i64))) := hide (by have h := World.ownsRow_lit (base := w.heap.size + 2) (e := 3) (size := 1) ((w.alloc (.cells #[.int .i64 7, .string ⟨#[]⟩, .int .i64 0, .bool false, .bool false] 23)).alloc (.cells #[.int .i64 0, .string ⟨#[]⟩, .int .i64 0, .bool false, .bool false] 23)) #[.int .i64 65533] 1 (by simp) (by simp [maxLen]) rfl; simpa using h)
  have HY : Hid (Below w.heap.size w (((w.alloc (.cells #[.int .i64 7, .string ⟨#[]⟩, .int .i64 0, .bool false, .bool false] 23)).alloc (.cells #[.int .i64 0, .string ⟨#[]⟩, .int .i64 0, .bool false, .bool false] 23)).alloc (.cells #[.int .i64 65533] 3))) := hide (bstep (bstep (balloc _ _) (balloc _ _)) (balloc _ _))
  generalize ((w.alloc (.cells #[.int .i64 7, .string ⟨#[]⟩, .int .i64 0, .bool false, .bool false] 23)).alloc (.cells #[.int .i64 0, .string ⟨#[]⟩, .int .i64 0, .bool false, .bool false] 23)).alloc (.cells #[.int .i64 65533] 3) = X at *
  have hlx := hX0.lt
  obtain ⟨a0, a1, a2, a3, a4, -, -, -, -, -⟩ := hX0
  obtain ⟨b0, b1, b2, b3, b4, y0, y1, y2, y3, y4⟩ := hX1
  have hly : w.heap.size + 1 < X.heap.size := World.block_lt_of_cell? X _ b0
  unfold M.st0 at a2 a3 a4
  go_region
  all_goals
    go_wp2_with fail
    refine bodyPost_ret (v := .tuple #[.slice (some ⟨w.heap.size + 1 + 1, 0, none⟩) 1 1, .agg #[.int .i64 7, .string ⟨#[]⟩, .int .i64 M.st0.1, .bool M.st0.2.1, .bool M.st0.2.2]]) (by simp [results, Tryz.results57, go_sem, b0, b1, b2, b3, b4, M.st0]) rfl ?_
    refine ⟨.slice (some ⟨w.heap.size + 1 + 1, 0, none⟩) 1 1, ⟨#[]⟩, M.st0, [65533], rfl, ?_, ?_, ?_, ?_⟩
    · exact owns_mono (o_drew (oset5 (e := 7) (r := ⟨#[]⟩) (t := M.st0) (unhide HX) (by omega))) (by omega)
    · exact b_drew (bset5 (e := 7) (r := ⟨#[]⟩) (t := M.st0) (unhide HY) (by omega))
    · intro h; cases h
    · intro _; refine ⟨?_, rfl, rfl⟩; rw [unhide HBL, M.TE_X]; have e0 : (bl s).isEmpty = false := (by rw [List.isEmpty_eq_false_iff]; exact fun q => h0 (by rw [← bl_len, q]; rfl)); simp [e0]

theorem feedOf_any (e : Int) (r : ByteArray) (t : M.St) (p : ByteArray) (last : Bool) (w : World) (he : 1 ≤ e ∧ e ≤ 7) (hk : M.Ok e t) (hs : r.size + p.size ≤ 3300) :
    Calls Tryz.prog 57 #[sv e r t, .string p, .bool last] w (FedR e r t p last w) := by
  obtain rfl | rfl | rfl | rfl | rfl | rfl | rfl := M.seven he
  · cases last
    · exact feedOf_1_more r t p w hs
    · exact feedOf_1_last r t p w hs
  · cases last
    · exact feedOf_2_more r t p w hs
    · exact feedOf_2_last r t p w hs
  · cases last
    · exact feedOf_3_more r t p w hs
    · exact feedOf_3_last r t p w hs
  · cases last
    · exact feedOf_4_more r t p w hs
    · exact feedOf_4_last r t p w hs
  · cases last
    · exact feedOf_5_more r t p w hs
    · exact feedOf_5_last r t p w hs
  · cases last
    · exact feedOf_6_more r t p w hs hk.1
    · exact feedOf_6_last r t p w hs hk.1
  · obtain ⟨g, fr, st⟩ := t
    by_cases h0 : (r ++ p).size = 0
    · cases last
      · exact feedOf_7_none_more r g fr st p w hs h0
      · exact feedOf_7_none_last r g fr st p w hs h0
    · cases st
      · cases last
        · exact feedOf_7_told_more r g fr p w hs h0
        · exact feedOf_7_told_last r g fr p w hs h0
      · cases last
        · exact feedOf_7_stop_more r g fr p w hs h0
        · exact feedOf_7_stop_last r g fr p w hs h0

end Go.Proofs.YtaiinjfnkmidbaaGreatDoor

namespace Go.Proofs.YtaiinjfnkmidbaaGreatDoor
open Go.RowKit
set_option linter.unusedVariables false

set_option maxHeartbeats 800000 in
set_option maxRecDepth 100000 in
theorem chooseOf_any (name s : ByteArray) (w : World) (hn : name.size ≤ 3000) (hs : s.size ≤ 3300) :
    Calls Tryz.prog 17 #[.string name, .string s] w fun e w' => e = .returned (.tuple #[.int .i64 (chI name (bl s)).1, .int .i64 (chI name (bl s)).2.1, .int .i64 (chI name (bl s)).2.2]) ∧ Below w.heap.size w w' := by
  have HS := hide (fun w => sniffOf_any s w (by unfold maxLen; omega))
  have HF := hide (fun w => findOf_any name w hn)
  have HC := hide (fun w => scanOf_any s w (by omega))
  have R1 := hide (fun h => chI_mark (name := name) (l := bl s) h)
  have R2 := hide (fun h h1 => chI_label (name := name) (l := bl s) h h1)
  have R3 := hide (fun h h1 h2 => chI_meta (name := name) (l := bl s) h h1 h2)
  have R4 := hide (fun h h1 h2 => chI_none (name := name) (l := bl s) h h1 h2)
  generalize (M.sn (bl s)).1 = a at *
  generalize (M.sn (bl s)).2 = b at *
  generalize findI name = c at *
  generalize scnI (bl s) = d at *
  by_cases h0 : a = 0
  · subst h0
    by_cases h1 : c = 0
    · subst h1
      by_cases h2 : d = 0
      · subst h2
        have HR := hide (unhide R4 rfl rfl rfl)
        clear R1 R2 R3 R4
        go_enter Tryz.func17, Tryz.ntmps17
        go_wp2_with fail
        refine (unhide HS _).mono ?_
        rintro e w1 ⟨rfl, hw⟩
        replace hw := hw.symm
        subst hw
        go_wp2_with fail
        refine (unhide HF _).mono ?_
        rintro e w2 ⟨rfl, hb2⟩
        have HB2 := hide hb2
        clear hb2
        go_wp2_with fail
        refine (unhide HC _).mono ?_
        rintro e w3 ⟨rfl, hb3⟩
        have HB3 := hide (bstep (unhide HB2) hb3)
        clear hb3
        go_wp2_with fail
        go_ret3
        exact ⟨by rw [unhide HR]; rfl, unhide HB3⟩
      · have HR := hide (unhide R3 rfl rfl h2)
        have hne : (d != 0) = true := bne_iff_ne.2 h2
        clear R1 R2 R3 R4 h2
        go_enter Tryz.func17, Tryz.ntmps17
        go_wp2_with fail
        refine (unhide HS _).mono ?_
        rintro e w1 ⟨rfl, hw⟩
        replace hw := hw.symm
        subst hw
        go_wp2_with fail
        refine (unhide HF _).mono ?_
        rintro e w2 ⟨rfl, hb2⟩
        have HB2 := hide hb2
        clear hb2
        go_wp2_with fail
        refine (unhide HC _).mono ?_
        rintro e w3 ⟨rfl, hb3⟩
        have HB3 := hide (bstep (unhide HB2) hb3)
        clear hb3
        go_wp2_with fail
        go_ret3
        exact ⟨by rw [unhide HR]; rfl, unhide HB3⟩
    · have HR := hide (unhide R2 rfl h1)
      have hne : (c != 0) = true := bne_iff_ne.2 h1
      clear R1 R2 R3 R4 h1
      go_enter Tryz.func17, Tryz.ntmps17
      go_wp2_with fail
      refine (unhide HS _).mono ?_
      rintro e w1 ⟨rfl, hw⟩
      replace hw := hw.symm
      subst hw
      go_wp2_with fail
      refine (unhide HF _).mono ?_
      rintro e w2 ⟨rfl, hb2⟩
      have HB2 := hide hb2
      clear hb2
      go_wp2_with fail
      go_ret3
      exact ⟨by rw [unhide HR]; rfl, unhide HB2⟩
  · have HR := hide (unhide R1 h0)
    have hne : (a != 0) = true := bne_iff_ne.2 h0
    clear R1 R2 R3 R4 h0
    go_enter Tryz.func17, Tryz.ntmps17
    go_wp2_with fail
    refine (unhide HS _).mono ?_
    rintro e w1 ⟨rfl, hw⟩
    replace hw := hw.symm
    subst hw
    go_wp2_with fail
    go_ret3
    exact ⟨by rw [unhide HR]; rfl, Below.refl _ _⟩
end Go.Proofs.YtaiinjfnkmidbaaGreatDoor

namespace Go.Proofs.YtaiinjfnkmidbaaGreatDoor
open Go.RowKit
set_option linter.unusedVariables false

set_option maxHeartbeats 800000 in
set_option maxRecDepth 100000 in
theorem isEnough_any (name s : ByteArray) (w : World) (hn : name.size ≤ 3000) (hs : s.size ≤ maxLen) :
    Calls Tryz.prog 52 #[.string name, .string s] w fun e w' => e = .returned (.bool (enF name (bl s))) ∧ Below w.heap.size w w' := by
  have HS := hide (fun w => sniffOf_any s w hs)
  have HF := hide (fun w => findOf_any name w hn)
  have HE : Hid (enF name (bl s) = (decide ((M.sn (bl s)).1 ≠ 0) || (decide (256 ≤ s.size) || (decide (findI name ≠ 0) && decide (3 ≤ s.size))))) := hide (by unfold enF; rw [bl_len])
  generalize (M.sn (bl s)).1 = a at *
  generalize (M.sn (bl s)).2 = b at *
  generalize findI name = c at *
  unfold maxLen at hs
  by_cases h0 : a = 0
  · subst h0
    by_cases h256 : 256 ≤ s.size
    · have HR : Hid (enF name (bl s) = true) := hide (by rw [unhide HE]; simp [h256])
      clear HE
      go_enter Tryz.func52, Tryz.ntmps52
      go_wp2_with fail
      refine (unhide HS _).mono ?_
      rintro e w1 ⟨rfl, hw⟩
      replace hw := hw.symm
      subst hw
      go_wp2_with fail
      go_ret
      exact ⟨ret_bool (unhide HR).symm, Below.refl _ _⟩
    · have HR : Hid (enF name (bl s) = ((c != 0) && decide ((3 : Int) ≤ (s.size : Int)))) := hide (by
        rw [unhide HE, Bool.eq_iff_iff]
        simp [h256]
        omega)
      clear HE
      go_enter Tryz.func52, Tryz.ntmps52
      go_wp2_with fail
      refine (unhide HS _).mono ?_
      rintro e w1 ⟨rfl, hw⟩
      replace hw := hw.symm
      subst hw
      go_wp2_with fail
      refine (unhide HF _).mono ?_
      rintro e w2 ⟨rfl, hb2⟩
      have HB2 := hide hb2
      clear hb2
      by_cases h1 : c = 0
      · subst h1
        go_wp2_with fail
        go_ret
        exact ⟨ret_bool (by rw [unhide HR] <;> simp <;> omega), unhide HB2⟩
      · have hne : (c != 0) = true := bne_iff_ne.2 h1
        rw [hne] at HR
        clear h1
        go_wp2_with fail
        go_ret
        exact ⟨ret_bool (by rw [unhide HR] <;> simp <;> omega), unhide HB2⟩
  · have HR : Hid (enF name (bl s) = true) := hide (by rw [unhide HE]; simp [h0])
    have hne : (a != 0) = true := bne_iff_ne.2 h0
    clear HE h0
    go_enter Tryz.func52, Tryz.ntmps52
    go_wp2_with fail
    refine (unhide HS _).mono ?_
    rintro e w1 ⟨rfl, hw⟩
    replace hw := hw.symm
    subst hw
    go_wp2_with fail
    go_ret
    exact ⟨ret_bool (unhide HR).symm, Below.refl _ _⟩
end Go.Proofs.YtaiinjfnkmidbaaGreatDoor
