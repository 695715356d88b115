/- The mathematics of filters: paths, rules, lines, what is matched. -/
import Derived.Test.YtkohcibhefejfaaDoorNamesM
namespace Arb
set_option maxRecDepth 20000
set_option linter.unusedVariables false

/-- A rule of a filter. -/
structure Rul where
  kind : Int
  text : List UInt8
deriving DecidableEq

/-- The parts of a text between bytes of a kind. -/
def spl (c : UInt8) : List UInt8 → List (List UInt8)
  | [] => [[]]
  | b :: l => if b = c then [] :: spl c l else match spl c l with
    | [] => [[b]]
    | h :: t => (b :: h) :: t
theorem spl_ne (c : UInt8) : ∀ l, spl c l ≠ []
  | [] => by simp [spl]
  | b :: l => by
    unfold spl
    split
    · simp
    · split <;> simp
theorem spl_none {c : UInt8} : ∀ {x : List UInt8}, c ∉ x → spl c x = [x]
  | [], _ => rfl
  | b :: x, h => by
    rw [List.mem_cons, not_or] at h
    unfold spl
    rw [if_neg (Ne.symm h.1), spl_none h.2]
theorem spl_cons {c : UInt8} : ∀ {x y : List UInt8}, c ∉ x → spl c (x ++ c :: y) = x :: spl c y
  | [], y, _ => by rw [List.nil_append, spl, if_pos rfl]
  | b :: x, y, h => by
    rw [List.mem_cons, not_or] at h
    rw [List.cons_append, spl, if_neg (Ne.symm h.1), spl_cons h.2]
/-- The parts, put together again: each but the last with the byte behind it. -/
def joi (c : UInt8) : List (List UInt8) → List UInt8
  | [] => []
  | [x] => x
  | x :: y :: l => x ++ c :: joi c (y :: l)
theorem joi_spl (c : UInt8) : ∀ l, joi c (spl c l) = l
  | [] => rfl
  | b :: l => by
    have ih := joi_spl c l
    unfold spl
    split
    · rename_i h
      subst h
      rcases h' : spl b l with _ | ⟨h1, t⟩
      · exact absurd h' (spl_ne b l)
      · rw [h'] at ih
        rw [joi, ih]; rfl
    · rcases h' : spl c l with _ | ⟨h1, t⟩
      · exact absurd h' (spl_ne c l)
      · rw [h'] at ih
        cases t with
        | nil => rw [joi] at ih ⊢; rw [ih]
        | cons a t => rw [joi] at ih ⊢; rw [List.cons_append, ih]
theorem spl_mem {c : UInt8} : ∀ {l : List UInt8}, ∀ x ∈ spl c l, c ∉ x ∧ ∀ b ∈ x, b ∈ l
  | [], x, h => by
    simp [spl] at h
    subst h
    exact ⟨by simp, by simp⟩
  | b :: l, x, h => by
    unfold spl at h
    split at h
    · rcases List.mem_cons.1 h with rfl | h
      · exact ⟨by simp, by simp⟩
      · obtain ⟨h1, h2⟩ := spl_mem x h
        exact ⟨h1, fun a ha => List.mem_cons_of_mem _ (h2 a ha)⟩
    · rename_i hb
      rcases h' : spl c l with _ | ⟨h1, t⟩
      · exact absurd h' (spl_ne c l)
      · rw [h'] at h
        rcases List.mem_cons.1 h with rfl | h
        · obtain ⟨k1, k2⟩ := spl_mem (l := l) h1 (by rw [h']; exact List.mem_cons_self ..)
          refine ⟨?_, fun a ha => ?_⟩
          · rw [List.mem_cons, not_or]; exact ⟨fun e => hb e.symm, k1⟩
          · rcases List.mem_cons.1 ha with rfl | ha
            · exact List.mem_cons_self ..
            · exact List.mem_cons_of_mem _ (k2 a ha)
        · obtain ⟨k1, k2⟩ := spl_mem (l := l) x (by rw [h']; exact List.mem_cons_of_mem _ h)
          exact ⟨k1, fun a ha => List.mem_cons_of_mem _ (k2 a ha)⟩
theorem spl_joi {c : UInt8} : ∀ {l : List (List UInt8)}, l ≠ [] → (∀ x ∈ l, c ∉ x) → spl c (joi c l) = l
  | [], h, _ => absurd rfl h
  | [x], _, h => by rw [joi]; exact spl_none (h x (List.mem_cons_self ..))
  | x :: y :: l, _, h => by
    rw [joi, spl_cons (h x (List.mem_cons_self ..)), spl_joi (by simp) fun z hz => h z (List.mem_cons_of_mem _ hz)]

def pathOk (s : List UInt8) : Bool := decide ((spl 47 s).length ≤ 16) && (spl 47 s).all nmOk
def withinB (p o : List UInt8) : Bool := decide (o = [46]) || decide (p = o) || (decide (o.length + 1 < p.length) && decide (p.take o.length = o) && decide (p[o.length]? = some 47))
def typeOk (t : List UInt8) : Bool := decide (1 ≤ t.length ∧ t.length ≤ 7) && nmOk (120 :: 46 :: t) && decide (ext (120 :: 46 :: t) = t)
def ruleOk (x : Rul) : Bool := if x.kind = 1 ∨ x.kind = 2 then decide (x.text = [46]) || pathOk x.text else if x.kind = 3 then typeOk x.text else false
def wordOf (k : Int) : List UInt8 := if k = 1 then [119, 105, 116, 104, 32] else if k = 2 then [119, 105, 116, 104, 111, 117, 116, 32] else [116, 121, 112, 101, 32]
/-- Does a line say a rule of this kind? -/
def saysOf (k : Int) (s : List UInt8) : Bool := decide ((wordOf k).length < s.length ∧ s.take (wordOf k).length = wordOf k) && ruleOk ⟨k, s.drop (wordOf k).length⟩
/-- The rule that a line says. -/
def ruleAt (s : List UInt8) : Option Rul :=
  if saysOf 1 s then some ⟨1, s.drop 5⟩ else if saysOf 2 s then some ⟨2, s.drop 8⟩ else if saysOf 3 s then some ⟨3, s.drop 5⟩ else none
def rulesAt : List (List UInt8) → Option (List Rul)
  | [] => some []
  | s :: l => match ruleAt s with
    | none => none
    | some x => (rulesAt l).map (x :: ·)
def parseOf (t : List UInt8) : List Rul × Int :=
  if t = [] then ([], 0) else if t.getLast? ≠ some 10 then ([], 30) else if 16 < (spl 10 t.dropLast).length then ([], 40) else match rulesAt (spl 10 t.dropLast) with
    | none => ([], 30)
    | some l => (l, 0)
def lineOf (x : Rul) : List UInt8 := wordOf x.kind ++ x.text
def linesOf (l : List Rul) : List UInt8 := (l.map fun x => lineOf x ++ [10]).flatten
def printOf (l : List Rul) : List UInt8 × Int := if 16 < l.length then ([], 40) else if l.all ruleOk then (linesOf l, 0) else ([], 30)

theorem path_byte {s : List UInt8} (h : pathOk s = true) : s ≠ [] ∧ ∀ b ∈ s, b ≠ 10 := by
  unfold pathOk at h
  rw [Bool.and_eq_true, List.all_eq_true] at h
  refine ⟨?_, ?_⟩
  · rintro rfl
    have := h.2 [] (by simp [spl])
    exact absurd this (by decide)
  · intro b hb hb10
    subst hb10
    -- the byte lies in one of the parts
    have key : ∀ l : List UInt8, (10 : UInt8) ∈ l → ∃ x ∈ spl 47 l, (10 : UInt8) ∈ x := by
      intro l
      induction l with
      | nil => simp
      | cons a l ih =>
        intro hm
        unfold spl
        by_cases ha : a = 47
        · rw [if_pos ha]
          rcases List.mem_cons.1 hm with e | hm
          · rw [ha] at e; exact absurd e (by decide)
          · obtain ⟨x, h1, h2⟩ := ih hm
            exact ⟨x, List.mem_cons_of_mem _ h1, h2⟩
        · rw [if_neg ha]
          rcases h' : spl 47 l with _ | ⟨h1, t⟩
          · exact absurd h' (spl_ne 47 l)
          · rcases List.mem_cons.1 hm with e | hm
            · exact ⟨a :: h1, List.mem_cons_self .., by rw [← e]; exact List.mem_cons_self ..⟩
            · obtain ⟨x, k1, k2⟩ := ih hm
              rw [h'] at k1
              rcases List.mem_cons.1 k1 with rfl | k1
              · exact ⟨a :: x, List.mem_cons_self .., List.mem_cons_of_mem _ k2⟩
              · exact ⟨x, List.mem_cons_of_mem _ k1, k2⟩
    obtain ⟨x, hx, h10⟩ := key s hb
    have := ((ok_spec x).1 (h.2 x hx)).2 10 h10
    exact absurd this (by decide)
theorem rule_byte {x : Rul} (h : ruleOk x = true) : x.text ≠ [] ∧ (∀ b ∈ x.text, b ≠ 10) ∧ (x.kind = 1 ∨ x.kind = 2 ∨ x.kind = 3) := by
  unfold ruleOk at h
  split at h
  · rename_i hk
    rw [Bool.or_eq_true, decide_eq_true_eq] at h
    have h3 : x.kind = 1 ∨ x.kind = 2 ∨ x.kind = 3 := by omega
    rcases h with h | h
    · rw [h]; exact ⟨by simp, by simp, h3⟩
    · exact ⟨(path_byte h).1, (path_byte h).2, h3⟩
  · split at h
    · rename_i hk
      unfold typeOk at h
      rw [Bool.and_eq_true, Bool.and_eq_true, decide_eq_true_eq] at h
      refine ⟨fun e => by rw [e] at h; simp at h, fun b hb h10 => ?_, .inr (.inr hk)⟩
      have := ((ok_spec _).1 h.1.2).2 b (List.mem_cons_of_mem _ (List.mem_cons_of_mem _ hb))
      rw [h10] at this
      exact absurd this (by decide)
    · cases h
theorem word_byte (k : Int) : (10 : UInt8) ∉ wordOf k := by
  unfold wordOf
  repeat' split
  all_goals decide
theorem line_byte {x : Rul} (h : ruleOk x = true) : (10 : UInt8) ∉ lineOf x := by
  unfold lineOf
  rw [List.mem_append, not_or]
  exact ⟨word_byte _, fun hb => (rule_byte h).2.1 10 hb rfl⟩
theorem says_line {x : Rul} (h : ruleOk x = true) : ruleAt (lineOf x) = some x := by
  obtain ⟨k, t⟩ := x
  obtain ⟨h1, h2, h3⟩ := rule_byte h
  have ht : 0 < t.length := by
    cases t with
    | nil => exact absurd rfl h1
    | cons _ _ => simp
  rcases h3 with h3 | h3 | h3
  · simp only at h3; subst h3
    have : saysOf 1 (lineOf ⟨1, t⟩) = true := by
      simp [saysOf, lineOf, wordOf, h]; omega
    unfold ruleAt
    rw [if_pos this]
    simp [lineOf, wordOf]
  · simp only at h3; subst h3
    have n1 : saysOf 1 (lineOf ⟨2, t⟩) = false := by simp [saysOf, lineOf, wordOf]
    have : saysOf 2 (lineOf ⟨2, t⟩) = true := by
      simp [saysOf, lineOf, wordOf, h]; omega
    unfold ruleAt
    rw [if_neg (by rw [n1]; simp), if_pos this]
    simp [lineOf, wordOf]
  · simp only at h3; subst h3
    have n1 : saysOf 1 (lineOf ⟨3, t⟩) = false := by simp [saysOf, lineOf, wordOf]
    have n2 : saysOf 2 (lineOf ⟨3, t⟩) = false := by
      simp [saysOf, lineOf, wordOf]
    have : saysOf 3 (lineOf ⟨3, t⟩) = true := by
      simp [saysOf, lineOf, wordOf, h]; omega
    unfold ruleAt
    rw [if_neg (by rw [n1]; simp), if_neg (by rw [n2]; simp), if_pos this]
    simp [lineOf, wordOf]
theorem says_back {k : Int} {s : List UInt8} (h : saysOf k s = true) : ruleOk ⟨k, s.drop (wordOf k).length⟩ = true ∧ lineOf ⟨k, s.drop (wordOf k).length⟩ = s := by
  unfold saysOf at h
  rw [Bool.and_eq_true, decide_eq_true_eq] at h
  refine ⟨h.2, ?_⟩
  unfold lineOf
  have := List.take_append_drop (wordOf k).length s
  rw [h.1.2] at this
  exact this
theorem rule_back {s : List UInt8} {x : Rul} (h : ruleAt s = some x) : ruleOk x = true ∧ lineOf x = s := by
  unfold ruleAt at h
  split at h
  · rename_i hs; cases h; exact says_back hs
  · split at h
    · rename_i hs; cases h; exact says_back hs
    · split at h
      · rename_i hs; cases h; exact says_back hs
      · cases h
theorem rules_lines : ∀ (l : List Rul), (∀ x ∈ l, ruleOk x = true) → rulesAt (l.map lineOf) = some l
  | [], _ => rfl
  | x :: l, h => by
    rw [List.map_cons, rulesAt, says_line (h x (List.mem_cons_self ..))]
    simp only
    rw [rules_lines l fun y hy => h y (List.mem_cons_of_mem _ hy)]
    rfl
theorem rules_back : ∀ (s : List (List UInt8)) (l : List Rul), rulesAt s = some l → (∀ x ∈ l, ruleOk x = true) ∧ l.map lineOf = s
  | [], l, h => by cases h; exact ⟨by simp, rfl⟩
  | a :: s, l, h => by
    rw [rulesAt] at h
    cases ha : ruleAt a with
    | none => rw [ha] at h; cases h
    | some x =>
      rw [ha] at h
      simp only at h
      cases hs : rulesAt s with
      | none => rw [hs] at h; cases h
      | some m =>
        rw [hs] at h
        cases h
        obtain ⟨h1, h2⟩ := rules_back s m hs
        obtain ⟨h3, h4⟩ := rule_back ha
        refine ⟨fun y hy => ?_, by rw [List.map_cons, h2, h4]⟩
        rcases List.mem_cons.1 hy with rfl | hy
        · exact h3
        · exact h1 y hy
theorem lines_joi : ∀ (l : List Rul), l ≠ [] → linesOf l = joi 10 (l.map lineOf) ++ [10]
  | [], h => absurd rfl h
  | [x], _ => by simp [linesOf, joi]
  | x :: y :: l, _ => by
    have ih := lines_joi (y :: l) (by simp)
    unfold linesOf at ih ⊢
    rw [List.map_cons, List.flatten_cons, ih]
    show _ = (lineOf x ++ 10 :: joi 10 ((y :: l).map lineOf)) ++ [10]
    simp
theorem parse_print {l : List Rul} (h : (printOf l).2 = 0) : parseOf (printOf l).1 = (l, 0) := by
  unfold printOf at h ⊢
  split at h
  · cases h
  · rename_i h16
    rw [if_neg h16]
    split at h
    · rename_i hall
      rw [if_pos hall]
      rw [List.all_eq_true] at hall
      rcases l with _ | ⟨x, l⟩
      · rfl
      · have hj := lines_joi (x :: l) (by simp)
        show parseOf (linesOf (x :: l)) = _
        rw [hj]
        unfold parseOf
        have hsp : spl 10 (joi 10 ((x :: l).map lineOf)) = (x :: l).map lineOf := spl_joi (by simp) fun z hz => by
          obtain ⟨y, hy, rfl⟩ := List.mem_map.1 hz
          exact line_byte (hall y hy)
        rw [if_neg (by simp), if_neg (by simp), List.dropLast_concat, hsp, if_neg (by simpa using h16), rules_lines _ hall]
    · cases h
theorem print_parse {t : List UInt8} (h : (parseOf t).2 = 0) : printOf (parseOf t).1 = (t, 0) := by
  unfold parseOf at h ⊢
  split at h
  · rename_i h0; rw [if_pos h0, h0]; rfl
  · rename_i h0
    rw [if_neg h0]
    split at h
    · cases h
    · rename_i h10
      rw [if_neg h10]
      split at h
      · cases h
      · rename_i h16
        rw [if_neg h16]
        split at h
        · cases h
        · rename_i l hl
          obtain ⟨h1, h2⟩ := rules_back _ _ hl
          have hlen : l.length = (spl 10 t.dropLast).length := by rw [← h2]; simp
          have hne : l ≠ [] := by
            intro e; rw [e] at h2
            exact spl_ne 10 t.dropLast h2.symm
          have h10' : t.getLast? = some 10 := by simpa using h10
          have ht : t = t.dropLast ++ [10] := by
            rw [List.getLast?_eq_some_iff] at h10'
            obtain ⟨u, rfl⟩ := h10'
            simp
          show printOf l = _
          unfold printOf
          rw [if_neg (by omega), if_pos (List.all_eq_true.2 h1), lines_joi l hne, h2, joi_spl, ← ht]
theorem parse_bad {t : List UInt8} (h : (parseOf t).2 ≠ 0) : (parseOf t).1 = [] := by
  unfold parseOf at h ⊢
  repeat' split
  all_goals first | rfl | (exfalso; apply h; simp [*])

theorem within_refl (a : List UInt8) : withinB a a = true := by simp [withinB]
theorem within_dot (a : List UInt8) : withinB a [46] = true := by simp [withinB]
theorem within_spec (p o : List UInt8) : withinB p o = true ↔ o = [46] ∨ p = o ∨ ∃ r, r ≠ [] ∧ p = o ++ 47 :: r := by
  unfold withinB
  simp only [Bool.or_eq_true, Bool.and_eq_true, decide_eq_true_eq, or_assoc]
  constructor
  · rintro (h | h | ⟨⟨h1, h2⟩, h3⟩)
    · exact .inl h
    · exact .inr (.inl h)
    · refine .inr (.inr ⟨p.drop (o.length + 1), ?_, ?_⟩)
      · intro e
        have := congrArg List.length e
        simp at this
        omega
      · obtain ⟨hlt, he⟩ := List.getElem?_eq_some_iff.1 h3
        have h4 := List.drop_eq_getElem_cons hlt
        rw [he] at h4
        rw [← h4]
        conv => lhs; rw [← List.take_append_drop o.length p, h2]
  · rintro (h | h | ⟨r, h1, rfl⟩)
    · exact .inl h
    · exact .inr (.inl h)
    · refine .inr (.inr ⟨⟨?_, by simp⟩, by simp⟩)
      cases r with
      | nil => exact absurd rfl h1
      | cons _ _ => simp
theorem within_trans {a b c : List UInt8} (hb : b ≠ [46]) (h1 : withinB a b = true) (h2 : withinB b c = true) : withinB a c = true := by
  rw [within_spec] at *
  rcases h1 with h1 | rfl | ⟨r, hr, rfl⟩
  · exact absurd h1 hb
  · exact h2
  · rcases h2 with h2 | rfl | ⟨q, hq, rfl⟩
    · exact .inl h2
    · exact .inr (.inr ⟨r, hr, rfl⟩)
    · exact .inr (.inr ⟨q ++ 47 :: r, by simp, by simp⟩)
theorem within_below {a b : List UInt8} (hb : pathOk b = true) : withinB (a ++ 47 :: b) a = true := by
  rw [within_spec]
  exact .inr (.inr ⟨b, (path_byte hb).1, rfl⟩)

def longOf (s : List UInt8) : Int := if s = [46] then -1 else s.length
def candOf (p : List UInt8) (x : Rul) : Bool := decide (x.kind = 1 ∨ x.kind = 2) && withinB p x.text
def betterOf (x y : Rul) : Bool := decide (longOf y.text < longOf x.text) || (decide (longOf x.text = longOf y.text) && decide (x.kind = 2))
/-- The deciding rule, as rules come. -/
def bestStep (p : List UInt8) (b : Option Rul) (x : Rul) : Option Rul := if candOf p x then (match b with
  | none => some x
  | some y => if betterOf x y then some x else some y) else b
def bestOf (p : List UInt8) (l : List Rul) : Option Rul := l.foldl (bestStep p) none
def lastOf (p : List UInt8) : List UInt8 := (spl 47 p).getLast (spl_ne 47 p)
def typesOk (l : List Rul) (e : List UInt8) : Bool := !(l.any fun x => decide (x.kind = 3)) || l.any fun x => decide (x.kind = 3) && decide (x.text = e)
def matchOf (l : List Rul) (p : List UInt8) (d : Bool) : Bool := match bestOf p l with
  | none => false
  | some x => if x.kind = 2 then false else d || typesOk l (ext (lastOf p))
/-- No other rule decides ahead of this one. -/
structure Tops (p : List UInt8) (l : List Rul) (x : Rul) : Prop where
  mem : x ∈ l
  cand : candOf p x = true
  long : ∀ y ∈ l, candOf p y = true → longOf y.text ≤ longOf x.text
  out : ∀ y ∈ l, candOf p y = true → longOf y.text = longOf x.text → y.kind = 2 → x.kind = 2
/-- What is known of the deciding rule behind some rules. -/
def Best (p : List UInt8) (l : List Rul) (b : Option Rul) : Prop := (b = none ∧ ∀ x ∈ l, candOf p x = false) ∨ ∃ x, b = some x ∧ Tops p l x
theorem Best.step {p : List UInt8} {l : List Rul} {b : Option Rul} (ih : Best p l b) (x : Rul) : Best p (l ++ [x]) (bestStep p b x) := by
  unfold bestStep
  cases hc : candOf p x with
  | false =>
    simp only [Bool.false_eq_true, if_false]
    rcases ih with ⟨h1, h2⟩ | ⟨y, h1, h2⟩
    · refine .inl ⟨h1, fun z hz => ?_⟩
      rcases List.mem_append.1 hz with hz | hz
      · exact h2 z hz
      · simp at hz; rw [hz]; exact hc
    · refine .inr ⟨y, h1, List.mem_append_left _ h2.mem, h2.cand, fun z hz hzc => ?_, fun z hz hzc => ?_⟩
      · rcases List.mem_append.1 hz with hz | hz
        · exact h2.long z hz hzc
        · simp at hz; rw [hz, hc] at hzc; cases hzc
      · rcases List.mem_append.1 hz with hz | hz
        · exact h2.out z hz hzc
        · simp at hz; rw [hz, hc] at hzc; cases hzc
  | true =>
    simp only [if_true]
    rcases ih with ⟨h1, h2⟩ | ⟨y, h1, h2⟩
    · subst h1
      refine .inr ⟨x, rfl, by simp, hc, fun z hz hzc => ?_, fun z hz hzc _ hk => ?_⟩
      · rcases List.mem_append.1 hz with hz | hz
        · rw [h2 z hz] at hzc; cases hzc
        · simp at hz; rw [hz]; exact Int.le_refl _
      · rcases List.mem_append.1 hz with hz | hz
        · rw [h2 z hz] at hzc; cases hzc
        · simp at hz; rw [← hz]; exact hk
    · subst h1
      simp only
      cases hb : betterOf x y with
      | true =>
        simp only [if_true]
        unfold betterOf at hb
        simp only [Bool.or_eq_true, Bool.and_eq_true, decide_eq_true_eq] at hb
        refine .inr ⟨x, rfl, by simp, hc, fun z hz hzc => ?_, fun z hz hzc he hk => ?_⟩
        · rcases List.mem_append.1 hz with hz | hz
          · have := h2.long z hz hzc; omega
          · simp at hz; rw [hz]; exact Int.le_refl _
        · rcases List.mem_append.1 hz with hz | hz
          · have := h2.long z hz hzc
            rcases hb with hb | hb
            · omega
            · exact hb.2
          · simp at hz; rw [← hz]; exact hk
      | false =>
        simp only [Bool.false_eq_true, if_false]
        unfold betterOf at hb
        simp only [Bool.or_eq_false_iff, Bool.and_eq_false_iff, decide_eq_false_iff_not] at hb
        refine .inr ⟨y, rfl, List.mem_append_left _ h2.mem, h2.cand, fun z hz hzc => ?_, fun z hz hzc he hk => ?_⟩
        · rcases List.mem_append.1 hz with hz | hz
          · exact h2.long z hz hzc
          · simp at hz; rw [hz]; omega
        · rcases List.mem_append.1 hz with hz | hz
          · exact h2.out z hz hzc he hk
          · simp at hz
            subst hz
            rcases hb.2 with h | h
            · exact absurd he h
            · exact absurd hk h
theorem Best.fold {p : List UInt8} : ∀ (m l : List Rul) (b : Option Rul), Best p l b → Best p (l ++ m) (m.foldl (bestStep p) b)
  | [], l, b, h => by rw [List.append_nil]; exact h
  | x :: m, l, b, h => by
    have := Best.fold m (l ++ [x]) (bestStep p b x) (h.step x)
    rw [List.append_assoc] at this
    exact this
theorem best_tops (p : List UInt8) (l : List Rul) : Best p l (bestOf p l) := by
  have := Best.fold l [] none (p := p) (.inl ⟨rfl, by simp⟩)
  exact this
theorem Tops.kind {p : List UInt8} {l m : List Rul} {x y : Rul} (hm : ∀ z, z ∈ l ↔ z ∈ m) (h : Tops p l x) (k : Tops p m y) : x.kind = 2 ↔ y.kind = 2 := by
  have h1 := h.long y ((hm y).2 k.mem) k.cand
  have h2 := k.long x ((hm x).1 h.mem) h.cand
  constructor
  · exact fun e => k.out x ((hm x).1 h.mem) h.cand (by omega) e
  · exact fun e => h.out y ((hm y).2 k.mem) k.cand (by omega) e
/-- The order of rules, and how often one stands there, doesn't matter. -/
theorem match_set {l m : List Rul} (hm : ∀ z, z ∈ l ↔ z ∈ m) (p : List UInt8) (d : Bool) : matchOf l p d = matchOf m p d := by
  have ht : ∀ f : Rul → Bool, l.any f = m.any f := fun f => by
    rw [Bool.eq_iff_iff, List.any_eq_true, List.any_eq_true]
    exact ⟨fun ⟨x, h1, h2⟩ => ⟨x, (hm x).1 h1, h2⟩, fun ⟨x, h1, h2⟩ => ⟨x, (hm x).2 h1, h2⟩⟩
  have hty : ∀ e, typesOk l e = typesOk m e := fun e => by unfold typesOk; rw [ht, ht]
  unfold matchOf
  rcases best_tops p l with ⟨h1, h2⟩ | ⟨x, h1, h2⟩
  · rcases best_tops p m with ⟨k1, k2⟩ | ⟨y, k1, k2⟩
    · rw [h1, k1]
    · have := h2 y ((hm y).2 k2.mem)
      rw [k2.cand] at this; cases this
  · rcases best_tops p m with ⟨k1, k2⟩ | ⟨y, k1, k2⟩
    · have := k2 x ((hm x).1 h2.mem)
      rw [h2.cand] at this; cases this
    · rw [h1, k1]
      simp only
      have := Tops.kind hm h2 k2
      by_cases hx : x.kind = 2
      · rw [if_pos hx, if_pos (this.1 hx)]
      · rw [if_neg hx, if_neg fun e => hx (this.2 e), hty]
end Arb
