/- The mathematics of names: which texts may be names, endings, copies. -/
import Derived.ProofKit
namespace Arb
set_option maxRecDepth 20000
set_option linter.unusedVariables false

def okByte (b : UInt8) : Bool := decide (32 ≤ b.toNat ∧ b.toNat ≤ 126 ∧ b.toNat ≠ 47)
/-- The first and the last byte, the length, the two texts that are no names. -/
def nmHead (l : List UInt8) : Bool := decide (1 ≤ l.length ∧ l.length ≤ 24 ∧ l ≠ [46] ∧ l ≠ [46, 46] ∧ l.head? ≠ some 32 ∧ l.getLast? ≠ some 32)
def nmOk (l : List UInt8) : Bool := nmHead l && l.all okByte
def nmRight (l : List UInt8) : Int := if nmOk l then 0 else 23
/-- What stands behind the last '.'. -/
def extGo : List UInt8 → Option (List UInt8)
  | [] => none
  | b :: r => match extGo r with
    | some e => some e
    | none => if b = 46 then some r else none
def ext : List UInt8 → List UInt8
  | [] => []
  | _ :: r => (extGo r).getD []
def dg (n : Nat) : List UInt8 := if n < 10 then [UInt8.ofNat (48 + n)] else dg (n / 10) ++ [UInt8.ofNat (48 + n % 10)]
decreasing_by omega
def behindOf (s : List UInt8) : List UInt8 := if 1 ≤ (ext s).length ∧ (ext s).length ≤ 7 then 46 :: ext s else []
def tailOf (s : List UInt8) (n : Nat) : List UInt8 := 126 :: dg n ++ behindOf s
def copyOf (s : List UInt8) (n : Nat) : List UInt8 := (s.take (s.length - (behindOf s).length)).take (24 - (tailOf s n).length) ++ tailOf s n
/-- What Copy answers. -/
def copyRes (s : List UInt8) (n : Int) : List UInt8 × Int := if nmOk s then (if n < 1 ∨ 9999 < n then ([], 1) else (copyOf s n.toNat, 0)) else ([], 23)

theorem extGo_none : ∀ l : List UInt8, extGo l = none ↔ (46 : UInt8) ∉ l
  | [] => by simp [extGo]
  | b :: r => by
    have ih := extGo_none r
    unfold extGo
    cases h : extGo r with
    | some e =>
      have : (46 : UInt8) ∈ r := by
        by_cases hm : (46 : UInt8) ∈ r
        · exact hm
        · rw [ih.2 hm] at h; cases h
      simp [this]
    | none =>
      have hr := ih.1 h
      by_cases hb : b = 46
      · simp [hb]
      · simp [hb, hr, Ne.symm hb]
theorem extGo_some : ∀ (l e : List UInt8), extGo l = some e → ∃ p, l = p ++ 46 :: e ∧ (46 : UInt8) ∉ e
  | [], e, h => by simp [extGo] at h
  | b :: r, e, h => by
    unfold extGo at h
    cases h' : extGo r with
    | some e' =>
      rw [h'] at h
      simp only [Option.some.injEq] at h
      subst h
      obtain ⟨p, hp, hn⟩ := extGo_some r e' h'
      exact ⟨b :: p, by rw [hp]; rfl, hn⟩
    | none =>
      rw [h'] at h
      simp only at h
      split at h
      · rename_i hb
        simp only [Option.some.injEq] at h
        subst h; subst hb
        exact ⟨[], rfl, (extGo_none r).1 h'⟩
      · cases h
theorem extGo_found (p e : List UInt8) (h : (46 : UInt8) ∉ e) : extGo (p ++ 46 :: e) = some e := by
  induction p with
  | nil => simp [extGo, (extGo_none e).2 h]
  | cons b p ih => simp [extGo, ih]
theorem ext_found (p e : List UInt8) (hp : p ≠ []) (h : (46 : UInt8) ∉ e) : ext (p ++ 46 :: e) = e := by
  match p, hp with
  | b :: p, _ => simp [ext, extGo_found p e h]
theorem ext_none (l : List UInt8) (h : (46 : UInt8) ∉ l.tail) : ext l = [] := by
  match l with
  | [] => rfl
  | b :: r => simp [ext, (extGo_none r).2 h]
/-- Either there is no ending, or the text parts at its last '.', which is not its first byte. -/
theorem ext_cases (l : List UInt8) : ext l = [] ∨ ∃ p, p ≠ [] ∧ l = p ++ 46 :: ext l ∧ (46 : UInt8) ∉ ext l := by
  match l with
  | [] => exact .inl rfl
  | b :: r =>
    cases h : extGo r with
    | none => exact .inl (by simp [ext, h])
    | some e =>
      obtain ⟨p, hp, hn⟩ := extGo_some r e h
      have he : ext (b :: r) = e := by simp [ext, h]
      exact .inr ⟨b :: p, by simp, by rw [he, hp]; rfl, by rw [he]; exact hn⟩
theorem behind_cases (s : List UInt8) : (behindOf s = [] ∧ ¬ (1 ≤ (ext s).length ∧ (ext s).length ≤ 7)) ∨
    ∃ p, p ≠ [] ∧ s = p ++ behindOf s ∧ behindOf s = 46 :: ext s ∧ (46 : UInt8) ∉ ext s ∧ 1 ≤ (ext s).length ∧ (ext s).length ≤ 7 := by
  unfold behindOf
  by_cases h : 1 ≤ (ext s).length ∧ (ext s).length ≤ 7
  · rw [if_pos h]
    rcases ext_cases s with he | ⟨p, hp, hs, hn⟩
    · rw [he] at h; simp at h
    · exact .inr ⟨p, hp, hs, rfl, hn, h.1, h.2⟩
  · rw [if_neg h]; exact .inl ⟨rfl, h⟩
theorem dg_one (n : Nat) (h : n < 10) : dg n = [UInt8.ofNat (48 + n)] := by rw [dg, if_pos h]
theorem dg_more (n : Nat) (h : 10 ≤ n) : dg n = dg (n / 10) ++ [UInt8.ofNat (48 + n % 10)] := by rw [dg, if_neg (by omega)]
theorem dg_pos (n : Nat) : 1 ≤ (dg n).length := by
  by_cases h : n < 10
  · rw [dg_one n h]; simp
  · rw [dg_more n (by omega)]; simp
theorem dg_len (n : Nat) (h : n ≤ 9999) : (dg n).length ≤ 4 := by
  by_cases h1 : n < 10
  · rw [dg_one n h1]; simp
  · rw [dg_more n (by omega)]
    by_cases h2 : n / 10 < 10
    · rw [dg_one _ h2]; simp
    · rw [dg_more _ (by omega)]
      by_cases h3 : n / 10 / 10 < 10
      · rw [dg_one _ h3]; simp
      · rw [dg_more _ (by omega), dg_one (n / 10 / 10 / 10) (by omega)]; simp
theorem digit_nat (d : Nat) (h : d < 10) : (UInt8.ofNat (48 + d)).toNat = 48 + d := by
  rw [UInt8.toNat_ofNat']
  omega
theorem dg_digits : ∀ (n : Nat), ∀ b ∈ dg n, 48 ≤ b.toNat ∧ b.toNat ≤ 57 := by
  intro n
  induction n using Nat.strongRecOn with
  | ind n ih =>
    intro b hb
    by_cases h : n < 10
    · rw [dg_one n h] at hb
      simp only [List.mem_singleton] at hb
      subst hb
      rw [digit_nat n h]; omega
    · rw [dg_more n (by omega)] at hb
      rcases List.mem_append.1 hb with hb | hb
      · exact ih (n / 10) (by omega) b hb
      · simp only [List.mem_singleton] at hb
        subst hb
        rw [digit_nat _ (by omega)]; omega
def undg (l : List UInt8) : Nat := l.foldl (fun n b => n * 10 + (b.toNat - 48)) 0
theorem undg_dg : ∀ n, undg (dg n) = n := by
  intro n
  induction n using Nat.strongRecOn with
  | ind n ih =>
    by_cases h : n < 10
    · rw [dg_one n h]
      show 0 * 10 + ((UInt8.ofNat (48 + n)).toNat - 48) = n
      rw [digit_nat n h]; omega
    · rw [dg_more n (by omega)]
      have := ih (n / 10) (by omega)
      unfold undg at *
      rw [List.foldl_append, this]
      show n / 10 * 10 + ((UInt8.ofNat (48 + n % 10)).toNat - 48) = n
      rw [digit_nat _ (by omega)]; omega
theorem last_split (a b x y : List UInt8) (c : UInt8) (hx : c ∉ x) (hy : c ∉ y) (h : a ++ c :: x = b ++ c :: y) : x = y := by
  rcases List.append_eq_append_iff.1 h with ⟨t, h1, h2⟩ | ⟨t, h1, h2⟩
  · cases t with
    | nil => simpa using h2
    | cons d t =>
      simp only [List.cons_append, List.cons.injEq] at h2
      exact absurd (by rw [h2.2]; simp) hx
  · cases t with
    | nil => simpa using h2.symm
    | cons d t =>
      simp only [List.cons_append, List.cons.injEq] at h2
      exact absurd (by rw [h2.2]; simp) hy
theorem tilde_dg (n : Nat) : (126 : UInt8) ∉ dg n := fun h => by
  have := dg_digits n _ h
  have e : (126 : UInt8).toNat = 126 := rfl
  omega
theorem copy_inj (s : List UInt8) (n m : Nat) (h : copyOf s n = copyOf s m) : n = m := by
  unfold copyOf tailOf at h
  rw [← List.append_assoc, ← List.append_assoc] at h
  have h2 := List.append_cancel_right h
  have := last_split _ _ _ _ 126 (tilde_dg n) (tilde_dg m) h2
  rw [← undg_dg n, this, undg_dg]
theorem ok_spec (l : List UInt8) : nmOk l = true ↔ (1 ≤ l.length ∧ l.length ≤ 24 ∧ l ≠ [46] ∧ l ≠ [46, 46] ∧ l.head? ≠ some 32 ∧ l.getLast? ≠ some 32) ∧ ∀ b ∈ l, okByte b = true := by
  unfold nmOk nmHead
  rw [Bool.and_eq_true, decide_eq_true_eq, List.all_eq_true]
theorem tail_len (s : List UInt8) (n : Nat) (h : n ≤ 9999) : (tailOf s n).length ≤ 13 ∧ 2 ≤ (tailOf s n).length := by
  have h1 := dg_len n h
  have h2 := dg_pos n
  unfold tailOf
  rcases behind_cases s with ⟨hb, _⟩ | ⟨p, _, _, hb, _, h3, h4⟩
  · rw [hb]; simp; omega
  · rw [hb]; simp; omega
theorem copy_ok (s : List UInt8) (n : Nat) (hs : nmOk s = true) (hn : n ≤ 9999) : nmOk (copyOf s n) = true := by
  obtain ⟨⟨h1, h24, h2, h3, h4, h5⟩, h6⟩ := (ok_spec s).1 hs
  obtain ⟨t1, t2⟩ := tail_len s n hn
  have hmem : (126 : UInt8) ∈ copyOf s n := by unfold copyOf tailOf; simp
  have hlen : (copyOf s n).length ≤ 24 ∧ 2 ≤ (copyOf s n).length := by
    unfold copyOf
    rw [List.length_append, List.length_take]
    omega
  rw [ok_spec]
  refine ⟨⟨by omega, hlen.1, fun e => ?_, fun e => ?_, ?_, ?_⟩, ?_⟩
  · rw [e] at hmem; exact absurd hmem (by decide)
  · rw [e] at hmem; exact absurd hmem (by decide)
  · unfold copyOf
    intro e
    rw [List.head?_append] at e
    cases hh : ((s.take (s.length - (behindOf s).length)).take (24 - (tailOf s n).length)).head? with
    | none => rw [hh] at e; exact absurd e (by unfold tailOf; simp)
    | some x =>
      rw [hh] at e
      simp only [Option.some_or, Option.some.injEq] at e
      subst e
      apply h4
      rw [List.take_take, List.head?_take] at hh
      split at hh
      · cases hh
      · exact hh
  · unfold copyOf tailOf
    rcases behind_cases s with ⟨hb, _⟩ | ⟨p, hp, hsp, hb, _, h7, _⟩
    · rw [hb, List.append_nil, List.getLast?_append, List.getLast?_cons]
      intro e
      simp only [Option.some_or, Option.some.injEq] at e
      have hd : ∀ (x : UInt8) (l : List UInt8), (l.getLast?).getD x = 32 → (∀ b ∈ l, 48 ≤ b.toNat ∧ b.toNat ≤ 57) → 1 ≤ l.length → False := by
        intro x l hl hall hlen
        cases hg : l.getLast? with
        | none => rw [List.getLast?_eq_none_iff] at hg; subst hg; simp at hlen
        | some y =>
          rw [hg] at hl
          simp only [Option.getD_some] at hl
          have := hall y (List.mem_of_getLast? hg)
          subst hl
          exact absurd this.1 (by decide)
      exact hd _ _ e (dg_digits n) (dg_pos n)
    · rw [hb, ← List.append_assoc, List.getLast?_append]
      rw [hsp, hb, List.getLast?_append] at h5
      intro e
      apply h5
      cases hg : (46 :: ext s).getLast? with
      | none => simp at hg
      | some y => rw [hg] at e; exact e
  · intro b hb
    unfold copyOf tailOf at hb
    have hsub : ∀ x ∈ behindOf s, okByte x = true := by
      rcases behind_cases s with ⟨hb, _⟩ | ⟨p, _, hsp, _⟩
      · rw [hb]; simp
      · intro x hx; exact h6 x (by rw [hsp]; exact List.mem_append_right _ hx)
    rcases List.mem_append.1 hb with hb | hb
    · exact h6 b (List.mem_of_mem_take (List.mem_of_mem_take hb))
    · rcases List.mem_append.1 hb with hb | hb
      · rcases List.mem_cons.1 hb with rfl | hb
        · decide
        · have := dg_digits n b hb
          unfold okByte
          exact decide_eq_true (by omega)
      · exact hsub b hb
theorem copy_ext (s : List UInt8) (n : Nat) (h : 1 ≤ (ext s).length ∧ (ext s).length ≤ 7) : ext (copyOf s n) = ext s := by
  rcases behind_cases s with ⟨_, hb⟩ | ⟨p, _, _, hb, hn, _, _⟩
  · exact absurd h hb
  · unfold copyOf tailOf
    rw [hb, ← List.append_assoc]
    exact ext_found _ _ (by simp) hn
end Arb
