/- What a statement that feeds a state leaves, in whatever order it is carried out; what is told in pieces is what is told at once. Conditions stand at each law. -/
import Derived.Test.YtpjhcecfcjbgoaaDF
import Derived.Deep.CutRange
namespace Go.Proofs.Ytpjhcecfcjbgoaa
open Go.RowKit
set_option linter.unusedVariables false

def InF (W : World) (e : Int) (r : ByteArray) (t : M.St) (p : ByteArray) (last : Bool) (a x f : Value) (wx : World) : Prop :=
  ∃ av cv r' t' L B, a = .slice av L.length cv ∧ x = .pointer (some ⟨B, 0, none⟩) ∧ f = .int .i64 0 ∧ Sc B e r' t' wx ∧ Ints wx (.slice av L.length cv) L ∧ Below W.heap.size W wx ∧
    (last = false → L = (M.RE e t (bl r ++ bl p)).1 ∧ bl r' = (M.RE e t (bl r ++ bl p)).2.2 ∧ t' = (M.RE e t (bl r ++ bl p)).2.1) ∧
    (last = true → L = (M.TE e t (bl r ++ bl p)).1 ∧ r' = ⟨#[]⟩ ∧ t' = M.st0)
theorem InF.a {W w1 : World} {e : Int} {r p r' : ByteArray} {t t' : M.St} {last : Bool} {av : Option Addr} {cv : Nat} {L : List Int} (HW : Below W.heap.size W w1) (HI : w1.ownsRow W.heap.size 3 1 (.slice av L.length cv) L.length (L.map (Value.int .i64)))
    (h1 : last = false → L = (M.RE e t (bl r ++ bl p)).1 ∧ bl r' = (M.RE e t (bl r ++ bl p)).2.2 ∧ t' = (M.RE e t (bl r ++ bl p)).2.1) (h2 : last = true → L = (M.TE e t (bl r ++ bl p)).1 ∧ r' = ⟨#[]⟩ ∧ t' = M.st0) :
    InF W e r t p last (.slice av L.length cv) (.pointer (some ⟨w1.heap.size, 0, none⟩)) (.int .i64 0) (w1.alloc (.cells #[.int .i64 e, .string r', .int .i64 t'.1, .bool t'.2.1, .bool t'.2.2] 23)) :=
  ⟨av, cv, r', t', L, w1.heap.size, rfl, rfl, rfl, Sc.new w1 e r' t', (Ints.of_owns HI).below (balloc _ _), bstep HW (balloc _ _), h1, h2⟩
theorem InF.b {W w1 : World} {e : Int} {r p r' : ByteArray} {t t' : M.St} {last : Bool} {av : Option Addr} {cv : Nat} {L : List Int} (HW : Below W.heap.size W w1) (HR : Rc W.heap.size w1) (HI : w1.ownsRow (W.heap.size + 1) 3 1 (.slice av L.length cv) L.length (L.map (Value.int .i64)))
    (h1 : last = false → L = (M.RE e t (bl r ++ bl p)).1 ∧ bl r' = (M.RE e t (bl r ++ bl p)).2.2 ∧ t' = (M.RE e t (bl r ++ bl p)).2.1) (h2 : last = true → L = (M.TE e t (bl r ++ bl p)).1 ∧ r' = ⟨#[]⟩ ∧ t' = M.st0) :
    InF W e r t p last (.slice av L.length cv) (.pointer (some ⟨W.heap.size, 0, none⟩)) (.int .i64 0) (((((w1.setCell ⟨W.heap.size, 0, none⟩ (.int .i64 e)).setCell ⟨W.heap.size, 1, none⟩ (.string r')).setCell ⟨W.heap.size, 2, none⟩ (.int .i64 t'.1)).setCell ⟨W.heap.size, 3, none⟩ (.bool t'.2.1)).setCell ⟨W.heap.size, 4, none⟩ (.bool t'.2.2)) :=
  ⟨av, cv, r', t', L, W.heap.size, rfl, rfl, rfl, Sc.put HR e r' t', Ints.of_owns (oset5 HI (Nat.lt_succ_self _)), bset5 HW (Nat.le_refl _), h1, h2⟩
theorem Rc.made {W w1 : World} (hb : Below ((W.alloc (.cells #[.int .i64 0, .string ⟨#[]⟩, .int .i64 0, .bool false, .bool false] 23)).drew).heap.size ((W.alloc (.cells #[.int .i64 0, .string ⟨#[]⟩, .int .i64 0, .bool false, .bool false] 23)).drew) w1) : Rc W.heap.size w1 :=
  Rc.below (w := (W.alloc (.cells #[.int .i64 0, .string ⟨#[]⟩, .int .i64 0, .bool false, .bool false] 23)).drew) (by constructor <;> simp [go_sem]) hb (by simp)
theorem M.TE_app (e : Int) (t : M.St) (l m : List Int) : M.TE e t (l ++ m) = ((M.RE e t l).1 ++ (M.TE e (M.RE e t l).2.1 ((M.RE e t l).2.2 ++ m)).1, (M.TE e (M.RE e t l).2.1 ((M.RE e t l).2.2 ++ m)).2) := by
  rw [M.TE_run e t (l ++ m), M.RE_app e t l m, M.TE_run e (M.RE e t l).2.1 ((M.RE e t l).2.2 ++ m)]
  simp [List.append_assoc]
/-- A state that a piece leaves is right. -/
theorem chk_after {e : Int} (he : 1 ≤ e ∧ e ≤ 7) {t : M.St} (hk : M.Ok e t) (l : List Int) {r' : ByteArray} (hr : bl r' = (M.RE e t l).2.2) : (M.wE e (bl r') = r'.size ∧ r'.size ≤ 3) ∧ M.Ok e (M.RE e t l).2.1 := by
  refine ⟨⟨?_, ?_⟩, M.Ok_run he hk l⟩
  · rw [← bl_len, hr]; exact M.RE_left he t l
  · rw [← bl_len, hr]; exact M.RE_few he t l
theorem chk_beg {e : Int} (he : 1 ≤ e ∧ e ≤ 7) : M.wE e (bl ⟨#[]⟩) = (⟨#[]⟩ : ByteArray).size ∧ (⟨#[]⟩ : ByteArray).size ≤ 3 := by
  have := M.wE_bd he (bl ⟨#[]⟩)
  have e0 : (bl ⟨#[]⟩).length = 0 := rfl
  have e1 : (⟨#[]⟩ : ByteArray).size = 0 := rfl
  rw [e0] at this
  rw [e1]
  exact ⟨by omega, by omega⟩
end Go.Proofs.Ytpjhcecfcjbgoaa
