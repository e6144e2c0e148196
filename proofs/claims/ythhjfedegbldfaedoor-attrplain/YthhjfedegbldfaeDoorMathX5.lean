/- Plain facts on what a text says of itself: which answers there are, what is not seen, a meta that stands behind text without a 60, and one in a comment. Conditions stand at each law. -/
import Derived.Test.YthhjfedegbldfaeDoorMathW5
import Derived.Test.YthhjfedegbldfaeDoorMathP
namespace Go.Proofs.YthhjfedegbldfaeDoor

theorem lk_in : ∀ (l : List (ByteArray × Int)) (s : ByteArray), lk l s = 0 ∨ ∃ x ∈ l, lk l s = x.2
  | [], _ => .inl rfl
  | x :: t, s => by
    unfold lk
    split
    · exact .inr ⟨x, List.mem_cons_self, rfl⟩
    · rcases lk_in t s with h | ⟨y, hy, h⟩
      · exact .inl h
      · exact .inr ⟨y, List.mem_cons_of_mem _ hy, h⟩
theorem labs_bd : ∀ x ∈ labs, 0 ≤ x.2 ∧ x.2 ≤ 7 := by decide
theorem findI_bd (s : ByteArray) : 0 ≤ findI s ∧ findI s ≤ 7 := by
  unfold findI
  rcases lk_in labs (strOfNums (fdI (trI (bl s)))) with h | ⟨x, hx, h⟩
  · rw [h]; decide
  · rw [h]; exact labs_bd x hx
theorem chs_bd : ∀ (n : Nat) (l : List Int) (k : Nat), 0 ≤ chs n l k ∧ chs n l k ≤ 7
  | 0, l, k => by unfold chs; decide
  | n + 1, l, k => by
    unfold chs
    split
    · decide
    · split
      · exact chs_bd n l _
      · split
        · exact chs_bd n l _
        · split
          · split
            · decide
            · exact findI_bd _
          · exact findI_bd _
/-- Which answers there are. -/
def toldE (n : Int) : Prop := 0 ≤ n ∧ n ≤ 7 ∧ n ≠ 2 ∧ n ≠ 3 ∧ n ≠ 5
theorem fixE_told {n : Int} (h : 0 ≤ n ∧ n ≤ 7) : toldE (fixE n) := by
  unfold fixE toldE
  split
  · decide
  · split
    · decide
    · omega
theorem metaI_told (L : List (ByteArray × ByteArray)) : toldE (metaI L) := by
  unfold metaI
  refine fixE_told ?_
  split
  · exact findI_bd _
  · split
    · exact chs_bd _ _ _
    · decide
theorem scn_told : ∀ (n : Nat) (l : List Int) (k : Nat), toldE (scn n l k)
  | 0, l, k => by unfold scn toldE; decide
  | n + 1, l, k => by
    unfold scn
    split
    · unfold toldE; decide
    · split
      · exact metaI_told _
      · exact scn_told n l _
theorem scnI_told (l : List Int) : toldE (scnI l) := scn_told _ _ _
/-- What stands behind 256 bytes is not seen. -/
theorem scnI_more {l m : List Int} (h : 256 ≤ l.length) : scnI (l ++ m) = scnI l := by
  unfold scnI; rw [List.take_append_of_le_length h]
theorem scnI_take (l : List Int) : scnI (l.take 256) = scnI l := by
  unfold scnI; rw [List.take_take]; rfl

theorem fI_60 {c : Int} (h : fI c = 60) : c = 60 := by unfold fI at h; split at h <;> omega
theorem no60 {l : List Int} {k : Nat} {t : List Int} (h : l.getD k 0 ≠ 60) : bgn l k (60 :: t) = false := by
  cases hq : bgn l k (60 :: t) with
  | false => rfl
  | true => exact absurd (fI_60 (bgn_first hq).2) h
theorem nxt60 {l : List Int} {k : Nat} (h : l.getD k 0 ≠ 60) : nxtP l k = k + 1 ∧ isMeta l k = false := by
  have h4 : bgn l k b4 = false := no60 h
  have h5 : bgn l k b5 = false := no60 h
  have hE : bgn l k bE = false := no60 h
  have hS : bgn l k bS = false := no60 h
  have hQ : bgn l k bQ = false := no60 h
  have hm : isMeta l k = false := by unfold isMeta; rw [h5]; rfl
  have hn : nmAt l k = 0 := by unfold nmAt; rw [if_neg h]
  have hd : isDecl l k = false := by unfold isDecl; rw [hE, hS, hQ]; rfl
  refine ⟨?_, hm⟩
  unfold nxtP
  rw [if_neg (by rw [h4]; simp), if_neg (by rw [hm]; simp), if_neg (by omega), if_neg (by rw [hd]; simp)]
theorem scnF_skip {l : List Int} : ∀ (n i j : Nat), j - i ≤ n → i ≤ j → j ≤ l.length → (∀ k, i ≤ k → k < j → l.getD k 0 ≠ 60) → scnF l i = scnF l j
  | 0, i, j, hn, hij, _, _ => by rw [show i = j from by omega]
  | n + 1, i, j, hn, hij, hj, ha => by
    by_cases h : i = j
    · rw [h]
    · have hi := nxt60 (ha i (Nat.le_refl _) (by omega))
      rw [scnF_next (by omega) (by rw [hi.2]; simp) hi.1]
      exact scnF_skip n (i + 1) j (by omega) (by omega) hj (fun k h1 h2 => ha k (by omega) h2)

theorem drop_shift (a r : List Int) (i : Nat) : (a ++ r).drop (a.length + i) = r.drop i := by
  rw [← List.drop_drop, List.drop_left]
theorem run_shift (p : Int → Bool) (a r : List Int) (i : Nat) : run p (a ++ r) (a.length + i) = a.length + run p r i := by
  unfold run; rw [drop_shift]; omega
theorem cut_shift (a r : List Int) (i j : Nat) : cut (a ++ r) (a.length + i) (a.length + j) = cut r i j := by
  unfold cut; rw [drop_shift, show a.length + j - (a.length + i) = j - i from by omega]
theorem getD_shift (a r : List Int) (i : Nat) : (a ++ r).getD (a.length + i) 0 = r.getD i 0 := by
  rw [getD_r (by omega), show a.length + i - a.length = i from by omega]
theorem le_shift (a r : List Int) (i : Nat) : ((a ++ r).length ≤ a.length + i) = (r.length ≤ i) := by
  rw [List.length_append]; exact propext (by omega)
theorem lt_shift (a r : List Int) (i : Nat) : (a.length + i < (a ++ r).length) = (i < r.length) := by
  rw [List.length_append]; exact propext (by omega)
theorem attrI_shift (a r : List Int) (i : Nat) : attrI (a ++ r) (a.length + i) = ((attrI r i).1, a.length + (attrI r i).2.1, (attrI r i).2.2) := by
  unfold attrI
  simp only [run_shift, Nat.add_assoc, le_shift, lt_shift, getD_shift, cut_shift]
  split
  · rfl
  · split
    · rfl
    · split
      · split <;> rfl
      · rfl
theorem attrI_gt {l : List Int} {i : Nat} (hi : i < l.length) (h : l.getD i 0 = 62) : attrI l i = (([], []), i, false) := by
  have e : run pAhead l i = i := run_stop hi (by rw [h]; decide)
  unfold attrI
  simp only [e]
  rw [if_pos (.inr h)]
/-- The bytes ahead of the name of a plain meta. -/
def tgL : List Int := [60, 109, 101, 116, 97, 32, 99, 104, 97, 114, 115, 101, 116, 61]
theorem csL_str : strOfNums csL = csB := by decide
theorem meta_one (v : ByteArray) : metaI [(csB, v)] = fixE (findI v) := by
  have h : sfI csB [(csB, v)] 0 = (0 : Nat) := sfI_hit (L := [(csB, v)]) (j := 0) (by simp) rfl
  unfold metaI
  rw [h, if_pos (by omega), valAt_nat (by simp)]
  rfl
theorem tag_attrs {a nm behind : List Int} (hn : nm.all pl = true) (h0 : nm ≠ []) :
    attrsI (a ++ (32 :: csL ++ 61 :: (nm ++ 62 :: behind))) a.length = ([(csL, nm)], a.length + 9 + nm.length) := by
  have hb := attr_bare (pre := [32]) (nm := csL) (g := []) (g2 := []) (val := nm) (c := 62) (behind := behind) (by decide) (by decide) (by decide) rfl rfl hn h0 (by decide)
  have e : [32] ++ csL ++ ([] ++ 61 :: ([] ++ (nm ++ 62 :: behind))) = 32 :: csL ++ 61 :: (nm ++ 62 :: behind) := rfl
  rw [e] at hb
  have hs := attrI_shift a (32 :: csL ++ 61 :: (nm ++ 62 :: behind)) 0
  rw [hb, Nat.add_zero] at hs
  have hl : (a ++ (32 :: csL ++ 61 :: (nm ++ 62 :: behind))).length = a.length + 9 + nm.length + 1 + behind.length := by simp [csL]; omega
  have hp : a.length + ([32].length + csL.length + ([] : List Int).length + 1 + ([] : List Int).length + nm.length) = a.length + 9 + nm.length := by simp [csL]; omega
  have hs : attrI (a ++ (32 :: csL ++ 61 :: (nm ++ 62 :: behind))) a.length = ((csL, nm), a.length + 9 + nm.length, true) := hs.trans (congrArg (fun x => ((csL, nm), x, true)) hp)
  rw [attrsI_yes (by rw [hl]; omega) (by rw [hs]), hs]
  have hq : (a ++ (32 :: csL ++ 61 :: (nm ++ 62 :: behind))).getD (a.length + 9 + nm.length) 0 = 62 := by
    rw [show a.length + 9 + nm.length = a.length + (9 + nm.length) from by omega, getD_shift]
    have e2 : 32 :: csL ++ 61 :: (nm ++ 62 :: behind) = (32 :: csL ++ [61] ++ nm) ++ 62 :: behind := by simp
    have e3 : (32 :: csL ++ [61] ++ nm).length = 9 + nm.length := by simp [csL]; omega
    rw [e2, getD_r (by rw [e3]; exact Nat.le_refl _), e3, Nat.sub_self]
    rfl
  have hg := attrI_gt (l := a ++ (32 :: csL ++ 61 :: (nm ++ 62 :: behind))) (i := a.length + 9 + nm.length) (by rw [hl]; omega) hq
  show ((csL, nm) :: (attrsI _ (a.length + 9 + nm.length)).1, (attrsI _ (a.length + 9 + nm.length)).2) = _
  rw [attrsI_no (by rw [hl]; omega) (by rw [hg]), hg]
/-- A meta behind text without a 60. -/
theorem scan_meta {ahead nm behind : List Int} (ha : ∀ x ∈ ahead, x ≠ 60) (hn : nm.all pl = true) (h0 : nm ≠ []) (hne : fixE (fnd nm) ≠ 0) :
    scnF (ahead ++ (tgL ++ (nm ++ 62 :: behind))) 0 = fixE (fnd nm) := by
  have hs : scnF (ahead ++ (tgL ++ (nm ++ 62 :: behind))) 0 = scnF (ahead ++ (tgL ++ (nm ++ 62 :: behind))) ahead.length :=
    scnF_skip _ 0 ahead.length (Nat.le_refl _) (by omega) (by simp) (fun k _ h2 => by rw [getD_l h2]; exact ha _ (getD_mem h2))
  have hl : (ahead ++ (tgL ++ (nm ++ 62 :: behind))).length = ahead.length + 14 + nm.length + 1 + behind.length := by simp [tgL]; omega
  have h4 : bgn (ahead ++ (tgL ++ (nm ++ 62 :: behind))) ahead.length b4 = false := by
    unfold bgn
    refine decide_eq_false (fun h => ?_)
    have := h.2
    rw [show ahead.length + b4.length = ahead.length + b4.length from rfl] at this
    have e : cut (ahead ++ (tgL ++ (nm ++ 62 :: behind))) ahead.length (ahead.length + b4.length) = [60, 109, 101, 116] := by
      have := cut_shift ahead (tgL ++ (nm ++ 62 :: behind)) 0 b4.length
      rw [Nat.add_zero] at this
      rw [this]; rfl
    rw [e] at this
    exact absurd this (by decide)
  have e5 : ahead ++ (tgL ++ (nm ++ 62 :: behind)) = ahead ++ b5 ++ (32 :: csL ++ 61 :: (nm ++ 62 :: behind)) := by simp [tgL, b5, csL]
  have h5 : bgn (ahead ++ (tgL ++ (nm ++ 62 :: behind))) ahead.length b5 = true := by rw [e5]; exact bgn_here (by decide)
  have hat : (ahead ++ (tgL ++ (nm ++ 62 :: behind))).getD (ahead.length + 5) 0 = 32 := by rw [getD_shift]; rfl
  have hm : isMeta (ahead ++ (tgL ++ (nm ++ 62 :: behind))) ahead.length = true := by
    unfold isMeta
    rw [h5, hat, hl, decide_eq_true (by omega)]; rfl
  have hA : metaAt (ahead ++ (tgL ++ (nm ++ 62 :: behind))) ahead.length = fixE (fnd nm) := by
    unfold metaAt
    have h9 := tag_attrs (a := ahead ++ b5) (behind := behind) hn h0
    rw [← e5, List.length_append, show b5.length = 5 from rfl] at h9
    rw [h9]
    show metaI [(strOfNums csL, strOfNums nm)] = _
    rw [csL_str, meta_one]; rfl
  rw [hs, scnF_meta (by rw [hl]; omega) h4 hm (by rw [hA]; exact hne), hA]
theorem scanI_meta {ahead nm behind : List Int} (ha : ∀ x ∈ ahead, x ≠ 60) (hn : nm.all pl = true) (h0 : nm ≠ []) (hl : ahead.length + 15 + nm.length ≤ 256) (hne : fixE (fnd nm) ≠ 0) :
    scnI (ahead ++ (tgL ++ (nm ++ 62 :: behind))) = fixE (fnd nm) := by
  unfold scnI
  have e : ahead ++ (tgL ++ (nm ++ 62 :: behind)) = (ahead ++ (tgL ++ (nm ++ [62]))) ++ behind := by simp
  have hL : (ahead ++ (tgL ++ (nm ++ [62]))).length = ahead.length + 15 + nm.length := by simp [tgL]; omega
  rw [e, List.take_append, List.take_of_length_le (by rw [hL]; exact hl)]
  have e2 : ∀ b, (ahead ++ (tgL ++ (nm ++ [62]))) ++ b = ahead ++ (tgL ++ (nm ++ 62 :: b)) := fun b => by simp
  rw [e2]
  exact scan_meta ha hn h0 hne
/-- A meta in a comment. -/
theorem scan_comment {ahead nm : List Int} (ha : ∀ x ∈ ahead, x ≠ 60) (hn : nm.all pl = true) :
    scnF (ahead ++ (b4 ++ (tgL ++ (nm ++ [62, 45, 45, 62])))) 0 = 0 := by
  have hs : scnF (ahead ++ (b4 ++ (tgL ++ (nm ++ [62, 45, 45, 62])))) 0 = scnF (ahead ++ (b4 ++ (tgL ++ (nm ++ [62, 45, 45, 62])))) ahead.length :=
    scnF_skip _ 0 ahead.length (Nat.le_refl _) (by omega) (by simp) (fun k _ h2 => by rw [getD_l h2]; exact ha _ (getD_mem h2))
  have hl : (ahead ++ (b4 ++ (tgL ++ (nm ++ [62, 45, 45, 62])))).length = ahead.length + 18 + nm.length + 4 := by simp [tgL, b4]; omega
  have e4 : ahead ++ (b4 ++ (tgL ++ (nm ++ [62, 45, 45, 62]))) = ahead ++ b4 ++ (tgL ++ (nm ++ [62, 45, 45, 62])) := by simp
  have h4 : bgn (ahead ++ (b4 ++ (tgL ++ (nm ++ [62, 45, 45, 62])))) ahead.length b4 = true := by rw [e4]; exact bgn_here (by decide)
  have hm2 : bgn (ahead ++ (b4 ++ (tgL ++ (nm ++ [62, 45, 45, 62])))) (ahead.length + 2) b3 = false := by
    unfold bgn
    refine decide_eq_false (fun h => ?_)
    have h2 := h.2
    rw [Nat.add_assoc, cut_shift] at h2
    exact absurd h2 (by show fdI [45, 45, 60] ≠ _; decide)
  have hm3 : bgn (ahead ++ (b4 ++ (tgL ++ (nm ++ [62, 45, 45, 62])))) (ahead.length + 3) b3 = false := by
    unfold bgn
    refine decide_eq_false (fun h => ?_)
    have h2 := h.2
    rw [Nat.add_assoc, cut_shift] at h2
    exact absurd h2 (by show fdI [45, 60, 109] ≠ _; decide)
  have hf : ahead.length + 4 ≤ fbI (ahead ++ (b4 ++ (tgL ++ (nm ++ [62, 45, 45, 62])))) (ahead.length + 2) := by
    rw [fbI_miss (by rw [hl]; omega) hm2, fbI_miss (by rw [hl]; omega) hm3]
    exact fbI_ge _ _ _ (Nat.le_refl _)
  have hx : nxtP (ahead ++ (b4 ++ (tgL ++ (nm ++ [62, 45, 45, 62])))) ahead.length = fbI (ahead ++ (b4 ++ (tgL ++ (nm ++ [62, 45, 45, 62])))) (ahead.length + 2) + 3 := by
    unfold nxtP; rw [if_pos h4]
  rw [hs, scnF_next (by rw [hl]; omega) (by rw [h4]; simp) hx]
  have hq := Nat.add_le_add_right hf 3
  clear hf hx
  generalize fbI (ahead ++ (b4 ++ (tgL ++ (nm ++ [62, 45, 45, 62])))) (ahead.length + 2) + 3 = q at *
  by_cases hle : (ahead ++ (b4 ++ (tgL ++ (nm ++ [62, 45, 45, 62])))).length ≤ q
  · exact scnF_end hle
  · have hno : ∀ k, q ≤ k → k < (ahead ++ (b4 ++ (tgL ++ (nm ++ [62, 45, 45, 62])))).length → (ahead ++ (b4 ++ (tgL ++ (nm ++ [62, 45, 45, 62])))).getD k 0 ≠ 60 := by
      intro k h1 h2
      have hk : k = (ahead ++ b4 ++ [60]).length + (k - (ahead.length + 5)) := by simp [b4]; omega
      have e6 : ahead ++ (b4 ++ (tgL ++ (nm ++ [62, 45, 45, 62]))) = (ahead ++ b4 ++ [60]) ++ (tgL.tail ++ (nm ++ [62, 45, 45, 62])) := by simp [tgL, b4]
      rw [e6, hk, getD_shift]
      have hin : (tgL.tail ++ (nm ++ [62, 45, 45, 62])).getD (k - (ahead.length + 5)) 0 ∈ tgL.tail ++ (nm ++ [62, 45, 45, 62]) := getD_mem (by simp [tgL]; omega)
      rcases List.mem_append.1 hin with h | h
      · intro e; rw [e] at h; exact absurd h (by decide)
      · rcases List.mem_append.1 h with h | h
        · intro e; rw [e] at h
          have := pl_bd (List.all_eq_true.1 hn _ h)
          omega
        · intro e; rw [e] at h; exact absurd h (by decide)
    rw [scnF_skip _ q _ (Nat.le_refl _) (by omega) (Nat.le_refl _) hno]
    exact scnF_end (Nat.le_refl _)
theorem scanI_comment {ahead nm : List Int} (ha : ∀ x ∈ ahead, x ≠ 60) (hn : nm.all pl = true) (hl : ahead.length + 22 + nm.length ≤ 256) :
    scnI (ahead ++ (b4 ++ (tgL ++ (nm ++ [62, 45, 45, 62])))) = 0 := by
  unfold scnI
  rw [List.take_of_length_le (by simp [tgL, b4]; omega)]
  exact scan_comment ha hn
end Go.Proofs.YthhjfedegbldfaeDoor
