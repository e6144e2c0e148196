/- Plain mathematics of shifted signs: the steps of their decoder, fed in pieces; the bytes of code points; what is encoded is decoded as it was; escapes behind escapes. Conditions stand at each law. -/
import Derived.Test.YtpjhcecfcjbgoaaMathR
namespace Go.Proofs.Ytpjhcecfcjbgoaa.M

/-- The code point of a byte that is no 27, by signs (0: plain, 1: Roman, 2: kana). -/
def ksn (g c : Int) : Int := if g = 2 then (if 33 ≤ c ∧ c ≤ 95 then 65344 + c else 65533) else if 127 < c ∨ c = 14 ∨ c = 15 then 65533 else if g = 1 ∧ c = 92 then 165 else if g = 1 ∧ c = 126 then 8254 else c
def bads (fr : Bool) : List Int := if fr then [65533] else []
/-- A step: the signs, and whether an escape stood just ahead. -/
def fk (h : Int × Bool) : List Int → Option (List Int × Nat × (Int × Bool))
  | [] => none
  | c :: t => if c ≠ 27 then some ([ksn h.1 c], 1, (h.1, false)) else match t with
    | [] => none
    | d :: u => if d ≠ 40 then some ([65533], 1, (h.1, false)) else match u with
      | [] => none
      | e :: _ => if e = 66 then some (bads h.2, 3, (0, true)) else if e = 74 then some (bads h.2, 3, (1, true)) else if e = 73 then some (bads h.2, 3, (2, true)) else some ([65533], 1, (h.1, false))
theorem fk_sign (h : Int × Bool) {c : Int} (t : List Int) (hc : c ≠ 27) : fk h (c :: t) = some ([ksn h.1 c], 1, (h.1, false)) := by
  simp only [fk]; rw [if_pos hc]
theorem fk_steps : Steps fk where
  size := by
    intro s l o k s' h
    match l, h with
    | [c], h =>
      simp only [fk] at h
      split at h
      · simp only [Option.some.injEq, Prod.mk.injEq] at h; simp; omega
      · cases h
    | [c, d], h =>
      simp only [fk] at h
      split at h
      · simp only [Option.some.injEq, Prod.mk.injEq] at h; simp; omega
      · split at h
        · simp only [Option.some.injEq, Prod.mk.injEq] at h; simp; omega
        · cases h
    | c :: d :: e :: t, h =>
      simp only [fk] at h
      simp only [List.length_cons]
      split at h
      · simp only [Option.some.injEq, Prod.mk.injEq] at h; omega
      · split at h
        · simp only [Option.some.injEq, Prod.mk.injEq] at h; omega
        · split at h
          · simp only [Option.some.injEq, Prod.mk.injEq] at h; omega
          · split at h
            · simp only [Option.some.injEq, Prod.mk.injEq] at h; omega
            · split at h <;> (simp only [Option.some.injEq, Prod.mk.injEq] at h; omega)
  stay := by
    intro s l t r h
    match l, h with
    | [c], h =>
      simp only [fk] at h
      split at h
      · rename_i hc; rw [List.cons_append, fk_sign s _ hc]; exact h
      · cases h
    | [c, d], h =>
      simp only [fk] at h
      split at h
      · rename_i hc; rw [List.cons_append, fk_sign s _ hc]; exact h
      · rename_i hc
        split at h
        · rename_i hd; show fk s (c :: d :: t) = _; simp only [fk, if_neg hc, if_pos hd]; exact h
        · cases h
    | c :: d :: e :: u, h => exact h

def esc (g : Int) : Int := if g = 0 then 66 else if g = 1 then 74 else 73
def Sg (g : Int) : Prop := g = 0 ∨ g = 1 ∨ g = 2
theorem fk_esc (h : Int × Bool) {g : Int} (hg : Sg g) (t : List Int) : fk h (27 :: 40 :: esc g :: t) = some (bads h.2, 3, (g, true)) := by
  rcases hg with rfl | rfl | rfl <;> simp [fk, esc]
theorem Run_sign (h : Int × Bool) {c : Int} (t : List Int) (hc : c ≠ 27) : Run fk h (c :: t) = (ksn h.1 c :: (Run fk (h.1, false) t).1, (Run fk (h.1, false) t).2) := by
  rw [Run_step fk_steps (fk_sign h t hc)]; rfl
theorem Run_esc (h : Int × Bool) {g : Int} (hg : Sg g) (t : List Int) : Run fk h (27 :: 40 :: esc g :: t) = (bads h.2 ++ (Run fk (g, true) t).1, (Run fk (g, true) t).2) := by
  rw [Run_step fk_steps (fk_esc h hg t)]; rfl

/-- What is told of what waits at last, and all that a text tells. -/
def kfin (g : Int) : List Int → List Int
  | [] => []
  | [_] => [65533]
  | _ => [65533, ksn g 40]
def kdec (l : List Int) : List Int := (Run fk (0, false) l).1 ++ kfin (Run fk (0, false) l).2.1.1 (Run fk (0, false) l).2.2
theorem Run_nil (h : Int × Bool) : Run fk h [] = ([], h, []) := Run_wait rfl
/-- What waits: nothing, a 27, or that and a 40. -/
theorem fk_waits {h : Int × Bool} {l : List Int} (hw : fk h l = none) : l = [] ∨ l = [27] ∨ l = [27, 40] := by
  match l, hw with
  | [], _ => exact .inl rfl
  | [c], hw =>
    simp only [fk] at hw
    split at hw
    · cases hw
    · rename_i hc; exact .inr (.inl (by simp at hc; rw [hc]))
  | [c, d], hw =>
    simp only [fk] at hw
    split at hw
    · cases hw
    · rename_i hc
      split at hw
      · cases hw
      · rename_i hd; exact .inr (.inr (by simp at hc hd; rw [hc, hd]))
  | c :: d :: e :: t, hw =>
    simp only [fk] at hw
    split at hw
    · cases hw
    · split at hw
      · cases hw
      · split at hw
        · cases hw
        · split at hw
          · cases hw
          · split at hw <;> cases hw

/-! ### encoding -/
def kis (g n : Int) (c : Nat) : Bool := c != 27 && ksn g c == n && n != 65533
def hasK (g n : Int) : Bool := (List.range 128).any (kis g n)
def kby (g n : Int) : Int := (((List.range 128).find? (kis g n)).getD 0 : Nat)
def anyK (n : Int) : Bool := hasK 0 n || hasK 1 n || hasK 2 n
def want (now n : Int) : Int := if hasK now n then now else if hasK 0 n then 0 else if hasK 1 n then 1 else 2
theorem kby_spec {g n : Int} (h : hasK g n = true) : ∃ c : Nat, c < 128 ∧ kby g n = c ∧ c ≠ 27 ∧ ksn g c = n := by
  unfold kby
  cases hf : (List.range 128).find? (kis g n) with
  | none =>
    rw [List.find?_eq_none] at hf
    simp only [hasK, List.any_eq_true] at h
    obtain ⟨c, hc, he⟩ := h
    exact absurd he (hf c hc)
  | some k =>
    have h1 := List.mem_of_find?_eq_some hf
    have h2 := List.find?_some hf
    simp only [kis, Bool.and_eq_true, bne_iff_ne, beq_iff_eq] at h2
    exact ⟨k, by simpa using h1, rfl, h2.1.1, h2.1.2⟩
theorem hasK_iff (g n : Int) : hasK g n = true ↔ ∃ c : Nat, c < 128 ∧ c ≠ 27 ∧ ksn g c = n ∧ n ≠ 65533 := by
  simp only [hasK, List.any_eq_true, List.mem_range, kis, Bool.and_eq_true, bne_iff_ne, beq_iff_eq]
  constructor
  · rintro ⟨c, h1, ⟨h2, h3⟩, h4⟩; exact ⟨c, h1, h2, h3, h4⟩
  · rintro ⟨c, h1, h2, h3, h4⟩; exact ⟨c, h1, ⟨h2, h3⟩, h4⟩
theorem want_sg {now n : Int} (hn : Sg now) : Sg (want now n) := by
  unfold want Sg at *
  split
  · exact hn
  · split
    · exact .inl rfl
    · split
      · exact .inr (.inl rfl)
      · exact .inr (.inr rfl)
theorem want_has {now n : Int} (h : anyK n = true) : hasK (want now n) n = true := by
  simp only [anyK, Bool.or_eq_true] at h
  unfold want
  split
  · assumption
  · split
    · assumption
    · split
      · assumption
      · rcases h with (h | h) | h
        · contradiction
        · contradiction
        · exact h
def kpc (now n : Int) : List Int := (if want now n = now then [] else [27, 40, esc (want now n)]) ++ [kby (want now n) n]
def kst (now : Int) (l : List Int) : Int := l.foldl want now
def kbody : Int → List Int → List Int
  | _, [] => []
  | now, n :: l => kpc now n ++ kbody (want now n) l
def ktail (now : Int) : List Int := if now = 0 then [] else [27, 40, 66]
def kenc (l : List Int) : List Int := kbody 0 l ++ ktail (kst 0 l)
theorem kbody_snoc : ∀ (l : List Int) (now n : Int), kbody now (l ++ [n]) = kbody now l ++ kpc (kst now l) n
  | [], now, n => by simp [kbody, kst]
  | m :: l, now, n => by
    show kpc now m ++ kbody (want now m) (l ++ [n]) = kpc now m ++ kbody (want now m) l ++ kpc (kst (want now m) l) n
    rw [kbody_snoc l, List.append_assoc]
theorem kst_snoc (l : List Int) (now n : Int) : kst now (l ++ [n]) = want (kst now l) n := by simp [kst]
theorem kst_sg : ∀ (l : List Int) {now : Int}, Sg now → Sg (kst now l)
  | [], _, h => h
  | n :: l, now, h => kst_sg l (now := want now n) (want_sg h)
theorem kpc_len (now n : Int) : (kpc now n).length ≤ 4 := by unfold kpc; split <;> simp
theorem kbody_len : ∀ (l : List Int) (now : Int), (kbody now l).length ≤ 4 * l.length
  | [], _ => by simp [kbody]
  | n :: l, now => by
    have h1 := kpc_len now n
    have h2 := kbody_len l (want now n)
    simp only [kbody, List.length_append, List.length_cons]; omega
theorem kenc_len (l : List Int) : (kenc l).length ≤ 4 * l.length + 3 := by
  have := kbody_len l 0
  have : (ktail (kst 0 l)).length ≤ 3 := by unfold ktail; split <;> simp
  simp only [kenc, List.length_append]; omega
theorem Run_kpc {now n : Int} (hn : Sg now) (ha : anyK n = true) (X : List Int) : Run fk (now, false) (kpc now n ++ X) = (n :: (Run fk (want now n, false) X).1, (Run fk (want now n, false) X).2) := by
  obtain ⟨c, hc, e, h27, hk⟩ := kby_spec (want_has (now := now) ha)
  have hb : kby (want now n) n ≠ 27 := by rw [e]; omega
  unfold kpc
  by_cases hw : want now n = now
  · rw [if_pos hw, List.nil_append]
    show Run fk (now, false) (kby (want now n) n :: X) = _
    rw [Run_sign _ _ hb, e]
    show (ksn now c :: (Run fk (now, false) X).1, (Run fk (now, false) X).2) = _
    rw [hw] at hk ⊢
    rw [hk]
  · rw [if_neg hw]
    show Run fk (now, false) (27 :: 40 :: esc (want now n) :: kby (want now n) n :: X) = _
    rw [Run_esc _ (want_sg hn), Run_sign _ _ hb, e, hk]
    rfl
theorem Run_kbody : ∀ (l : List Int) {now : Int}, Sg now → l.all anyK = true → ∀ X, Run fk (now, false) (kbody now l ++ X) = (l ++ (Run fk (kst now l, false) X).1, (Run fk (kst now l, false) X).2)
  | [], now, _, _, X => by simp [kbody, kst]
  | n :: l, now, hn, ha, X => by
    rw [List.all_cons, Bool.and_eq_true] at ha
    show Run fk (now, false) (kpc now n ++ kbody (want now n) l ++ X) = _
    rw [List.append_assoc, Run_kpc hn ha.1, Run_kbody l (want_sg hn) ha.2 X]
    rfl
theorem Run_kenc (l : List Int) (ha : l.all anyK = true) (X : List Int) : ∃ fr, Run fk (0, false) (kenc l ++ X) = (l ++ (Run fk (0, fr) X).1, (Run fk (0, fr) X).2) := by
  unfold kenc
  rw [List.append_assoc, Run_kbody l (.inl rfl) ha]
  unfold ktail
  split
  · rename_i h; rw [h]; exact ⟨false, rfl⟩
  · refine ⟨true, ?_⟩
    have e := Run_esc (kst 0 l, false) (g := 0) (.inl rfl) X
    have e' : ([27, 40, 66] ++ X : List Int) = 27 :: 40 :: esc 0 :: X := rfl
    rw [e', e]
    rfl
theorem kdec_enc (l : List Int) (ha : l.all anyK = true) : kdec (kenc l) = l := by
  obtain ⟨fr, e⟩ := Run_kenc l ha []
  rw [List.append_nil, Run_nil] at e
  unfold kdec
  rw [e]; simp [kfin]
theorem kdec_enc_more (l : List Int) (ha : l.all anyK = true) : kdec (kenc l ++ [92]) = l ++ [92] := by
  obtain ⟨fr, e⟩ := Run_kenc l ha [92]
  rw [Run_sign _ _ (by decide), Run_nil] at e
  unfold kdec
  rw [e]; simp [kfin, ksn]

/-! ### plain signs -/
def pln (c : Int) : Bool := decide (0 ≤ c ∧ c < 128 ∧ c ≠ 14 ∧ c ≠ 15 ∧ c ≠ 27)
theorem pln_sn {c : Int} (h : pln c = true) : ksn 0 c = c ∧ c ≠ 27 ∧ 0 ≤ c ∧ c < 128 := by
  simp only [pln, decide_eq_true_eq] at h
  refine ⟨?_, by omega, by omega, by omega⟩
  unfold ksn; rw [if_neg (by omega), if_neg (by omega), if_neg (by omega), if_neg (by omega)]
theorem pln_has {c : Int} (h : pln c = true) : hasK 0 c = true := by
  have hs := pln_sn h
  rw [hasK_iff]
  exact ⟨c.toNat, by omega, by omega, by rw [show ((c.toNat : Nat) : Int) = c from by omega]; exact hs.1, by omega⟩
theorem pln_kby {c : Int} (h : pln c = true) : kby 0 c = c := by
  obtain ⟨k, hk, e, h27, hs⟩ := kby_spec (pln_has h)
  have := pln_sn h
  rw [e]
  unfold ksn at hs
  rw [if_neg (by omega)] at hs
  split at hs
  · omega
  · rw [if_neg (by omega), if_neg (by omega)] at hs; exact hs
theorem pln_dec : ∀ (l : List Int) (fr : Bool), l.all pln = true → Run fk (0, fr) l = (l, (0, fr && l.isEmpty), [])
  | [], fr, _ => by rw [Run_nil]; simp
  | c :: t, fr, h => by
    rw [List.all_cons, Bool.and_eq_true] at h
    have hs := pln_sn h.1
    rw [Run_sign _ _ hs.2.1, pln_dec t false h.2]
    simp [hs.1]
theorem pln_kdec (l : List Int) (h : l.all pln = true) : kdec l = l := by
  unfold kdec; rw [pln_dec l false h]; simp [kfin]
theorem pln_body : ∀ l : List Int, l.all pln = true → kbody 0 l = l ∧ kst 0 l = 0
  | [], _ => ⟨rfl, rfl⟩
  | c :: t, h => by
    rw [List.all_cons, Bool.and_eq_true] at h
    have hw : want 0 c = 0 := by unfold want; rw [if_pos (pln_has h.1)]
    have ih := pln_body t h.2
    constructor
    · show kpc 0 c ++ kbody (want 0 c) t = _
      rw [hw, ih.1]; simp [kpc, hw, pln_kby h.1]
    · show kst (want 0 c) t = 0
      rw [hw]; exact ih.2
theorem pln_kenc (l : List Int) (h : l.all pln = true) : kenc l = l := by
  have := pln_body l h
  unfold kenc; rw [this.1, this.2]; simp [ktail]
theorem pln_any (l : List Int) (h : l.all pln = true) : l.all anyK = true := by
  rw [List.all_eq_true] at *
  intro x hx
  simp [anyK, pln_has (h x hx)]

/-! ### escapes behind escapes -/
def escs (gs : List Int) : List Int := gs.flatMap (fun g => [27, 40, esc g])
theorem escs_snoc (gs : List Int) (g : Int) : escs (gs ++ [g]) = escs gs ++ [27, 40, esc g] := by simp [escs]
theorem escs_len (gs : List Int) : (escs gs).length = 3 * gs.length := by
  induction gs with
  | nil => rfl
  | cons g gs ih =>
    have : escs (g :: gs) = [27, 40, esc g] ++ escs gs := by simp [escs]
    rw [this, List.length_append, ih]; simp; omega
/-- How many Bads escapes tell behind a state, and which signs then. -/
def ebads (fr : Bool) (gs : List Int) : List Int := List.replicate (if fr then gs.length else gs.length - 1) 65533
def elast (g : Int) (gs : List Int) : Int := gs.foldl (fun _ x => x) g
theorem Run_escs : ∀ (gs : List Int) (g : Int) (fr : Bool), (∀ x ∈ gs, Sg x) → ∀ X, Run fk (g, fr) (escs gs ++ X) = (ebads fr gs ++ (Run fk (elast g gs, fr || !gs.isEmpty) X).1, (Run fk (elast g gs, fr || !gs.isEmpty) X).2)
  | [], g, fr, _, X => by cases fr <;> simp [escs, ebads, elast]
  | x :: gs, g, fr, h, X => by
    have e : escs (x :: gs) ++ X = 27 :: 40 :: esc x :: (escs gs ++ X) := by simp [escs]
    rw [e, Run_esc _ (h x (by simp)), Run_escs gs x true (fun y hy => h y (by simp [hy])) X]
    cases fr
    · simp [bads, ebads, elast]
    · simp [bads, ebads, elast, List.replicate_succ]
end Go.Proofs.Ytpjhcecfcjbgoaa.M
