/- Filters: lemmas that the program and the reference share. -/
import Derived.Test.YtkohcibhefejfaaDoorGlobT
import Derived.Test.YtkohcibhefejfaaDoorCalm
namespace Go.Proofs.YtkohcibhefejfaaDoor.W
set_option maxRecDepth 20000
set_option linter.unusedVariables false
open Go.RowKit Go.Proofs Arb

theorem bs_eq (a b : List UInt8) : ((BS a).toList == (BS b).toList) = decide (a = b) := by
  rw [Go.Lib.toList_data, Go.Lib.toList_data, BS_list, BS_list]
  by_cases h : a = b
  · subst h; simp
  · simp [h]
theorem part_len {c : UInt8} : ∀ {l : List UInt8}, ∀ x ∈ spl c l, x.length ≤ l.length
  | [], x, h => by simp [spl] at h; subst h; simp
  | b :: l, x, h => by
    unfold spl at h
    split at h
    · rcases List.mem_cons.1 h with rfl | h
      · simp
      · have := part_len x h; simp; omega
    · rcases h' : spl c l with _ | ⟨h1, t⟩
      · exact absurd h' (spl_ne c l)
      · rw [h'] at h
        rcases List.mem_cons.1 h with rfl | h
        · have := part_len (l := l) h1 (by rw [h']; exact List.mem_cons_self ..)
          simp; omega
        · have := part_len (l := l) x (by rw [h']; exact List.mem_cons_of_mem _ h)
          simp; omega
theorem right_zero (l : List UInt8) : (nmRight l == 0) = nmOk l := by
  unfold nmRight
  cases nmOk l <;> rfl
theorem right_ne (l : List UInt8) : (nmRight l != 0) = !nmOk l := by
  unfold nmRight
  cases nmOk l <;> rfl

theorem bs_append (a b : List UInt8) : BS a ++ BS b = BS (a ++ b) := ByteArray.mk_append_mk _ _
theorem lines_snoc (l : List Rul) (x : Rul) : linesOf (l ++ [x]) = linesOf l ++ wordOf x.kind ++ x.text ++ [10] := by simp [linesOf, lineOf]
theorem word_len (k : Int) : (wordOf k).length ≤ 8 := by
  unfold wordOf
  repeat' split
  all_goals decide
theorem lines_len (l : List Rul) (h : ∀ x ∈ l, x.text.length ≤ 100000) : (linesOf l).length ≤ l.length * 100009 := by
  induction l with
  | nil => simp [linesOf]
  | cons x l ih =>
    have h1 := ih fun y hy => h y (List.mem_cons_of_mem _ hy)
    have h2 := h x (List.mem_cons_self ..)
    have h3 := word_len x.kind
    unfold linesOf at h1 ⊢
    rw [List.map_cons, List.flatten_cons, List.length_append, List.length_cons]
    have e : (lineOf x ++ [10]).length = (wordOf x.kind).length + x.text.length + 1 := by simp [lineOf]; omega
    show (lineOf x ++ [10]).length + _ ≤ _
    rw [e]
    omega

theorem best_take {p : List UInt8} {l : List Rul} {k : Nat} {x : Rul} (h : l[k]? = some x) : bestOf p (l.take (k + 1)) = bestStep p (bestOf p (l.take k)) x := by
  rw [List.take_add_one, h]
  simp [bestOf]
end Go.Proofs.YtkohcibhefejfaaDoor.W
