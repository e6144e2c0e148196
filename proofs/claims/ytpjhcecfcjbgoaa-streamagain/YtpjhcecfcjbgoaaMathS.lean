/- Plain functions on integers that say what the program's functions on a byte a sign compute: a byte's code point, a code point's byte, if it has one. No condition. -/
import Derived.Test.YtpjhcecfcjbgoaaMathU
namespace Go.Proofs.Ytpjhcecfcjbgoaa.M

def high : List Int := [8364, 129, 8218, 402, 8222, 8230, 8224, 8225, 710, 8240, 352, 8249, 338, 141, 381, 143, 144, 8216, 8217, 8220, 8221, 8226, 8211, 8212, 732, 8482, 353, 8250, 339, 157, 382, 376]
def pt (user : Bool) (c : Int) : Int := if c < 128 then c else if user then 63232 + c else if c < 160 then high.getD (c - 128).toNat 0 else c
def tblOf (user : Bool) (k : Nat) : List Int := (List.range k).map (fun j : Nat => pt user j)
def hasB (user : Bool) (n : Int) : Bool := (List.range 256).any (fun c => pt user (c : Nat) == n)
def bof (user : Bool) (n : Int) : Int := (((List.range 256).find? (fun c => pt user (c : Nat) == n)).getD 0 : Nat)
def decS (user : Bool) (l : List Int) : List Int := l.map (pt user)
def encS (user : Bool) (l : List Int) : List Int := l.map (bof user)

theorem tblOf_len (user : Bool) (k : Nat) : (tblOf user k).length = k := by simp [tblOf]
theorem tblOf_get (user : Bool) {k j : Nat} (h : j < k) : (tblOf user k).getD j 0 = pt user j := by simp [tblOf, h]
theorem tblOf_snoc (user : Bool) (k : Nat) : tblOf user (k + 1) = tblOf user k ++ [pt user k] := by simp [tblOf, List.range_succ]

theorem pt_bd (user : Bool) {k : Nat} (h : k < 256) : 0 ≤ pt user k ∧ pt user k ≤ 65535 := by
  have := (by decide +kernel : ∀ u : Bool, ∀ k : Fin 256, 0 ≤ pt u (k : Nat) ∧ pt u (k : Nat) ≤ 65535)
  exact this user ⟨k, h⟩
theorem pt_nodup (user : Bool) : ((List.range 256).map (fun j : Nat => pt user j)).Nodup := by
  cases user
  · decide +kernel
  · decide +kernel
theorem pt_inj (user : Bool) {j k : Nat} (hj : j < 256) (hk : k < 256) (h : pt user j = pt user k) : j = k := by
  have hn := pt_nodup user
  have e1 : ((List.range 256).map (fun j : Nat => pt user j))[j]? = some (pt user j) := by simp [hj]
  have e2 : ((List.range 256).map (fun j : Nat => pt user j))[k]? = some (pt user k) := by simp [hk]
  exact (List.getElem?_inj (by simpa using hj) hn).1 (by rw [e1, e2, h])
theorem hasB_pt (user : Bool) {k : Nat} (h : k < 256) : hasB user (pt user k) = true := by
  simp only [hasB, List.any_eq_true, List.mem_range]
  exact ⟨k, h, by simp⟩
theorem bof_spec (user : Bool) {n : Int} (h : hasB user n = true) : ∃ k : Nat, k < 256 ∧ bof user n = k ∧ pt user k = n := by
  unfold bof
  cases hf : (List.range 256).find? (fun c => pt user (c : Nat) == n) with
  | none =>
    rw [List.find?_eq_none] at hf
    simp only [hasB, List.any_eq_true] at h
    obtain ⟨c, hc, he⟩ := h
    exact absurd he (by simpa using hf c hc)
  | some k =>
    have h1 := List.mem_of_find?_eq_some hf
    have h2 := List.find?_some hf
    exact ⟨k, by simpa using h1, rfl, by simpa using h2⟩
theorem bof_pt (user : Bool) {k : Nat} (h : k < 256) : bof user (pt user k) = k := by
  obtain ⟨j, hj, e, hp⟩ := bof_spec user (hasB_pt user h)
  rw [e, pt_inj user hj h hp]
theorem bof_bd (user : Bool) {n : Int} (h : hasB user n = true) : 0 ≤ bof user n ∧ bof user n ≤ 255 := by
  obtain ⟨k, hk, e, _⟩ := bof_spec user h
  omega
theorem pt_bof (user : Bool) {n : Int} (h : hasB user n = true) : pt user (bof user n) = n := by
  obtain ⟨k, hk, e, hp⟩ := bof_spec user h
  rw [e, hp]
theorem hasB_iff (user : Bool) (n : Int) : hasB user n = true ↔ ∃ k : Nat, k < 256 ∧ pt user k = n := by
  simp [hasB]
theorem hasB_no (user : Bool) (n : Int) (h : ∀ k : Nat, k < 256 → pt user k ≠ n) : hasB user n = false := by
  rw [Bool.eq_false_iff]
  intro e
  obtain ⟨k, hk, hp⟩ := (hasB_iff user n).1 e
  exact h k hk hp
theorem byte_nat {c : Int} (h0 : 0 ≤ c) (h1 : c ≤ 255) : ∃ k : Nat, k < 256 ∧ c = k := ⟨c.toNat, by omega, by omega⟩
theorem decS_ok (user : Bool) (l : List Int) (h : ∀ x ∈ l, 0 ≤ x ∧ x ≤ 255) : (decS user l).all (hasB user) = true := by
  simp only [decS, List.all_map, List.all_eq_true, Function.comp]
  intro x hx
  obtain ⟨k, hk, rfl⟩ := byte_nat (h x hx).1 (h x hx).2
  exact hasB_pt user hk
theorem encS_decS (user : Bool) (l : List Int) (h : ∀ x ∈ l, 0 ≤ x ∧ x ≤ 255) : encS user (decS user l) = l := by
  simp only [encS, decS, List.map_map]
  conv => rhs; rw [← List.map_id l]
  apply List.map_congr_left
  intro x hx
  obtain ⟨k, hk, rfl⟩ := byte_nat (h x hx).1 (h x hx).2
  exact bof_pt user hk
theorem encS_byt (user : Bool) (l : List Int) (h : l.all (hasB user) = true) : ∀ x ∈ encS user l, 0 ≤ x ∧ x ≤ 255 := by
  intro x hx
  simp only [encS, List.mem_map] at hx
  obtain ⟨n, hn, rfl⟩ := hx
  exact bof_bd user (List.all_eq_true.1 h n hn)
theorem encS_snoc (user : Bool) (l : List Int) (n : Int) : encS user (l ++ [n]) = encS user l ++ [bof user n] := by simp [encS]
theorem encS_len (user : Bool) (l : List Int) : (encS user l).length = l.length := by simp [encS]
theorem decS_len (user : Bool) (l : List Int) : (decS user l).length = l.length := by simp [decS]
theorem decS_app (user : Bool) (l m : List Int) : decS user (l ++ m) = decS user l ++ decS user m := by simp [decS]
end Go.Proofs.Ytpjhcecfcjbgoaa.M
