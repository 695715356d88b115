/- What is known of the cells of an argument that can be read as data: whatever its type is made of (numbers, bools, texts, structs, arrays, slices). -/
import Derived.Test.YtkohcibhefejfaaDoorBase
import Derived.OpenShut
import Derived.SizedLaws
import Derived.Deep.Slices
namespace Arb
set_option maxRecDepth 20000
open Go Go.RowKit Go.ChangeShapes Go.WideShapes

/-- Bytes as a string. -/
def BS (l : List UInt8) : ByteArray := ⟨l.toArray⟩
theorem BS_list (l : List UInt8) : (BS l).data.toList = l := by simp [BS]
theorem BS_size (l : List UInt8) : (BS l).size = l.length := by simp [BS, ByteArray.size]
theorem BS_extract (l : List UInt8) (a b : Nat) : (BS l).extract a b = BS ((l.drop a).take (b - a)) := by rw [Go.Lib.extract_eq, BS_list]; rfl
theorem BS_tail (l : List UInt8) (a : Nat) : (BS l).extract a (BS l).size = BS (l.drop a) := by
  rw [BS_extract, BS_size, List.take_of_length_le (by simp)]
theorem BS_data (s : ByteArray) : BS s.data.toList = s := Go.Lib.mk_data s
/-- The first bytes of BS l, for the walk. -/
theorem BS_get (l : List UInt8) (i : Nat) (h : i < (BS l).size) : (BS l)[i] = l[i]'(by rw [BS_size] at h; exact h) := rfl
theorem BS_beq (l m : List UInt8) : ((BS l).toList == m) = decide (l = m) := by
  rw [Go.Lib.toList_data, BS_list]
  by_cases h : l = m
  · subst h; simp
  · simp [h]

/-- The cells cs are a value of type t in the world w. -/
def Cells (P : Program) (w : World) : Nat → TypeId → List Value → Prop
  | 0, _, _ => False
  | f + 1, t, cs => match P.underlying t with
    | some .bool => ∃ b, cs = [.bool b]
    | some (.int k) => ∃ z, cs = [.int k z] ∧ (Lit.int k z).wf = true
    | some .string => ∃ l, cs = [.string (BS l)] ∧ l.length ≤ 140737488351232
    | some (.slice e) => cs = [.slice none 0 0] ∨ ∃ (ad : Addr) (len cap : Nat) (rows : List (List Value)), cs = [.slice (some ad) len cap] ∧ len ≤ cap ∧ cap * P.bytesOf e ≤ 140737488351232 ∧ rows.length = len ∧
        (∀ r ∈ rows, r.length = P.cellsOf e ∧ Cells P w f e r) ∧ ∀ i r, rows[i]? = some r → ∀ j u, r[j]? = some u → w.cell? (ad.add (i * P.cellsOf e + j)) = some u
    | some (.struct fs) => cs.length = P.cellsOf t ∧ ∀ (i : Nat) (fd : Field), fs[i]? = some fd → Cells P w f fd.type ((cs.drop fd.offset).take (P.cellsOf fd.type))
    | some (.array n e) => cs.length = P.cellsOf t ∧ ∀ i, i < n → Cells P w f e ((cs.drop (i * P.cellsOf e)).take (P.cellsOf e))
    | _ => True

section
variable {H : Type} {enc : TypeId × Value → H} {P : Program} {w : World}

theorem weightsAll_mem : ∀ {ds : List (DataW H)} {e : TypeId} {d : DataW H}, d ∈ ds → ∀ n ∈ d.weights P e, n ∈ DataW.weightsAll P e ds
  | d0 :: ds, e, d, hd, n, hn => by
    simp only [DataW.weightsAll, List.mem_append]
    rcases List.mem_cons.1 hd with rfl | hd
    · exact .inl hn
    · exact .inr (weightsAll_mem hd n hn)

theorem cells_of_trod {base : Nat} {held : Bool} : ∀ (fuel : Nat) (t : TypeId) (cs : List Value) (x : DataW H × List MemPlace), DataW.trod enc P w base (fun _ => true) held fuel t cs = some x →
    (∀ n ∈ x.1.weights P t, n ≤ 140737488351232) → Cells P w fuel t cs := by
  intro fuel
  induction fuel with
  | zero => intro t cs x h; simp [DataW.trod] at h
  | succ f ih =>
    intro t cs x h hw
    unfold Cells
    split
    · rename_i ht
      obtain ⟨b, rfl, _⟩ := DataW.trod_bool ht h
      exact ⟨b, rfl⟩
    · rename_i k ht
      obtain ⟨n, rfl, _, hwf⟩ := DataW.trod_int ht h
      exact ⟨n, rfl, hwf⟩
    · rename_i ht
      obtain ⟨s, rfl, rfl, _⟩ := DataW.trod_string ht h
      refine ⟨s.data.toList, by rw [BS_data], ?_⟩
      exact hw _ (by simp [DataW.weights])
    · rename_i e ht
      rcases DataW.trod_slice ht h with ⟨rfl, _⟩ | ⟨a, len, cap, elems, rest, n, hf, rfl, rfl, hb, hl, hm, hlen, hel, hsp, _⟩
      · exact .inl rfl
      · obtain rfl : f = n := by omega
        obtain ⟨hrl, _⟩ := hsp rfl
        right
        simp only [DataW.weights, ht, List.length_map] at hw
        have hcap : cap * P.bytesOf e ≤ 140737488351232 := by
          have := hw _ (List.mem_cons_self ..)
          rw [hrl, hlen] at this
          rwa [show len + (cap - len) = cap by omega] at this
        have each : ∀ i, i < len → ∃ r, w.cells? base (a.add (i * P.cellsOf e)) (P.cellsOf e) = some r ∧ Cells P w f e r := by
          intro i hi
          have h1 := hel i hi
          obtain ⟨y, hy⟩ : ∃ y, elems[i]? = some y := ⟨elems[i]'(by omega), List.getElem?_eq_getElem _⟩
          rw [hy, Option.bind_eq_some_iff] at h1
          obtain ⟨r, hr, ht'⟩ := h1
          refine ⟨r, hr, ih e r y ht' fun m hm' => hw m (List.mem_cons_of_mem _ (List.mem_append.2 (.inl (weightsAll_mem (d := y.1) ?_ m hm'))))⟩
          exact List.mem_map.2 ⟨y, List.mem_of_getElem? hy, rfl⟩
        obtain ⟨V, hV⟩ := Go.Deep.choose_lt (α := List Value) (p := fun i r => w.cells? base (a.add (i * P.cellsOf e)) (P.cellsOf e) = some r ∧ Cells P w f e r) each
        refine ⟨a, len, cap, (List.range len).map V, rfl, hl, hcap, by simp, ?_, ?_⟩
        · intro r hr
          obtain ⟨i, hi, rfl⟩ := List.mem_map.1 hr
          obtain ⟨h1, h2⟩ := hV i (List.mem_range.1 hi)
          exact ⟨(World.cells?_some h1).2.1, h2⟩
        · intro i r hr j u hu
          have hi : i < len := by
            have := (List.getElem?_eq_some_iff.1 hr).1
            simpa using this
          have hr' : r = V i := by simpa [hi] using hr.symm
          subst hr'
          obtain ⟨h1, _⟩ := hV i hi
          obtain ⟨_, hcl, hat⟩ := World.cells?_some h1
          have hj : j < P.cellsOf e := by
            have := (List.getElem?_eq_some_iff.1 hu).1
            omega
          rw [← Go.Deep.add_add, hat j hj, hu]
    · rename_i fs ht
      obtain ⟨xs, n, hf, rfl, hlen, hxl, hg⟩ := DataW.trod_struct ht h
      obtain rfl : f = n := by omega
      refine ⟨hlen, fun i fd hfd => ?_⟩
      have h1 := hg i fd hfd
      have hi : i < xs.length := by rw [hxl]; exact (Array.getElem?_eq_some_iff.1 hfd).1
      rw [List.getElem?_eq_getElem hi] at h1
      refine ih _ _ _ h1 fun m hm => hw m ?_
      simp only [DataW.weights, ht]
      exact DataW.weights_mem_each (j := i) (by simp [hfd]) (by simp [hi]) m hm
    · rename_i k e ht
      obtain ⟨xs, n, hf, rfl, hlen, hxl, hg⟩ := DataW.trod_array ht h
      obtain rfl : f = n := by omega
      refine ⟨hlen, fun i hi => ?_⟩
      have h1 := hg i hi
      have hi' : i < xs.length := by omega
      rw [List.getElem?_eq_getElem hi'] at h1
      refine ih _ _ _ h1 fun m hm => hw m ?_
      simp only [DataW.weights, ht]
      exact weightsAll_mem (d := xs[i].1) (List.mem_map.2 ⟨_, List.getElem_mem hi', rfl⟩) m hm
    · trivial

theorem cells_of_arg {base : Nat} {held : Bool} {ts : List TypeId} {ds : List (DataW H)} (hsz : (DataW.weightsEach P ts ds).all (· ≤ reachBytes) = true) {j : Nat} {t : TypeId} {v : Value} {d : DataW H} {ps : List MemPlace}
    (ht : ts[j]? = some t) (hd : ds[j]? = some d) (h : DataW.Trod enc P w base (fun _ => true) held t v d ps) : ∃ f, Cells P w f t v.cells.toList := by
  obtain ⟨f, hf⟩ := h
  refine ⟨f, cells_of_trod f t _ _ hf fun n hn => ?_⟩
  have := List.all_eq_true.1 hsz _ (DataW.weights_mem_each ht hd n hn)
  exact of_decide_eq_true this
end

section
variable {P : Program} {w w' : World} {f : Nat} {t : TypeId} {cs : List Value}
theorem cells_bool (ht : P.underlying t = some .bool) (h : Cells P w f t cs) : ∃ b, cs = [.bool b] := by
  cases f with
  | zero => exact h.elim
  | succ f => unfold Cells at h; rw [ht] at h; exact h
theorem cells_int {k : IntKind} (ht : P.underlying t = some (.int k)) (h : Cells P w f t cs) : ∃ z, cs = [.int k z] ∧ (Lit.int k z).wf = true := by
  cases f with
  | zero => exact h.elim
  | succ f => unfold Cells at h; rw [ht] at h; exact h
theorem cells_string (ht : P.underlying t = some .string) (h : Cells P w f t cs) : ∃ l, cs = [.string (BS l)] ∧ l.length ≤ 140737488351232 := by
  cases f with
  | zero => exact h.elim
  | succ f => unfold Cells at h; rw [ht] at h; exact h
theorem cells_struct {fs : Array Field} (ht : P.underlying t = some (.struct fs)) (h : Cells P w f t cs) :
    cs.length = P.cellsOf t ∧ ∀ (i : Nat) (fd : Field), fs[i]? = some fd → ∃ f', Cells P w f' fd.type ((cs.drop fd.offset).take (P.cellsOf fd.type)) := by
  cases f with
  | zero => exact h.elim
  | succ f =>
    unfold Cells at h; rw [ht] at h
    exact ⟨h.1, fun i fd hfd => ⟨f, h.2 i fd hfd⟩⟩
theorem cells_array {n : Nat} {e : TypeId} (ht : P.underlying t = some (.array n e)) (h : Cells P w f t cs) :
    cs.length = P.cellsOf t ∧ ∀ i, i < n → ∃ f', Cells P w f' e ((cs.drop (i * P.cellsOf e)).take (P.cellsOf e)) := by
  cases f with
  | zero => exact h.elim
  | succ f =>
    unfold Cells at h; rw [ht] at h
    exact ⟨h.1, fun i hi => ⟨f, h.2 i hi⟩⟩

/-- The slice A, n, c has the elements whose cells are the rows. -/
def Sl (w : World) (size : Nat) (A : Option Addr) (n c : Nat) (rows : List (List Value)) : Prop :=
  rows.length = n ∧ n ≤ c ∧ (A = none → c = 0) ∧
    (0 < n → ∃ b off, A = some ⟨b, off, none⟩ ∧ ∀ i r, rows[i]? = some r → r.length = size ∧ ∀ j u, r[j]? = some u → w.cell? ⟨b, off + i * size + j, none⟩ = some u)

theorem spot_none {a : Addr} {u : Value} (h : w.cell? a = some u) : a = ⟨a.block, a.off, none⟩ := by
  unfold World.cell? at h
  split at h
  · split at h
    · cases h
    · rename_i hs
      obtain ⟨b, o, s⟩ := a
      cases s with
      | none => rfl
      | some _ => simp at hs
  · cases h

theorem cells_slice {e : TypeId} (ht : P.underlying t = some (.slice e)) (hsz : 0 < P.cellsOf e) (h : Cells P w f t cs) :
    ∃ A n c rows, cs = [.slice A n c] ∧ c * P.bytesOf e ≤ 140737488351232 ∧ (∀ r ∈ rows, ∃ f', Cells P w f' e r) ∧ Sl w (P.cellsOf e) A n c rows := by
  cases f with
  | zero => exact h.elim
  | succ f =>
    unfold Cells at h; rw [ht] at h
    rcases h with rfl | ⟨ad, len, cap, rows, rfl, hl, hb, hr, hrow, hc⟩
    · exact ⟨none, 0, 0, [], rfl, by omega, by simp, rfl, Nat.le_refl _, fun _ => rfl, fun h => absurd h (by omega)⟩
    · refine ⟨some ad, len, cap, rows, rfl, hb, fun r hm => ⟨f, (hrow r hm).2⟩, hr, hl, (fun h => by cases h), fun hn => ?_⟩
      have h0 : rows[0]? = some (rows[0]'(by omega)) := List.getElem?_eq_getElem _
      have hl0 := (hrow _ (List.mem_of_getElem? h0)).1
      have h1 := hc 0 _ h0 0 _ (List.getElem?_eq_getElem (by omega))
      have hs := spot_none h1
      have had : ad.add (0 * P.cellsOf e + 0) = ad := by simp [Addr.add]
      rw [had] at hs
      refine ⟨ad.block, ad.off, congrArg some hs, fun i r hi => ⟨(hrow r (List.mem_of_getElem? hi)).1, fun j u hu => ?_⟩⟩
      have h2 := hc i r hi j u hu
      rw [hs, Go.Lib.addr_add] at h2
      rw [Nat.add_assoc]
      exact h2

theorem Sl.below {size : Nat} {A : Option Addr} {n c : Nat} {rows : List (List Value)} (h : Sl w size A n c rows) (hb : Below w.heap.size w w') : Sl w' size A n c rows := by
  refine ⟨h.1, h.2.1, h.2.2.1, fun hn => ?_⟩
  obtain ⟨b, off, hA, hr⟩ := h.2.2.2 hn
  refine ⟨b, off, hA, fun i r hi => ⟨(hr i r hi).1, fun j u hu => ?_⟩⟩
  have h1 := (hr i r hi).2 j u hu
  rw [hb.cell (block_lt_of_cell h1)]
  exact h1
theorem Sl.cell1 {α : Type} {A : Option Addr} {n c : Nat} {g : α → Value} {l : List α} (h : Sl w 1 A n c (l.map fun x => [g x])) {k : Nat} (hk : k < n) :
    ∃ b off x, A = some ⟨b, off, none⟩ ∧ l[k]? = some x ∧ w.cell? ⟨b, off + k, none⟩ = some (g x) := by
  obtain ⟨b, off, hA, hr⟩ := h.2.2.2 (by omega)
  have hkl : k < l.length := by have := h.1; simp at this; omega
  refine ⟨b, off, l[k], hA, List.getElem?_eq_getElem hkl, ?_⟩
  have := (hr k [g l[k]] (by simp [hkl])).2 0 (g l[k]) rfl
  simpa using this

theorem choose_list {α β : Type} {p : β → α → Prop} : ∀ (l : List β), (∀ b ∈ l, ∃ a, p b a) → ∃ l' : List α, l'.length = l.length ∧ ∀ (i : Nat) b a, l[i]? = some b → l'[i]? = some a → p b a
  | [], _ => ⟨[], rfl, by simp⟩
  | b :: l, h => by
    obtain ⟨a, ha⟩ := h b (List.mem_cons_self ..)
    obtain ⟨l', h1, h2⟩ := choose_list l fun b' hb' => h b' (List.mem_cons_of_mem _ hb')
    refine ⟨a :: l', by simp [h1], fun i b' a' => ?_⟩
    cases i with
    | zero =>
      intro e1 e2
      simp at e1 e2
      subst e1; subst e2
      exact ha
    | succ i =>
      intro e1 e2
      exact h2 i b' a' (by simpa using e1) (by simpa using e2)

/-- A slice whose elements are of the form g x. -/
theorem sl_typed {α : Type} {size : Nat} {A : Option Addr} {n c : Nat} {rows : List (List Value)} (g : α → List Value) {q : α → Prop} (h : Sl w size A n c rows) (hr : ∀ r ∈ rows, ∃ x, r = g x ∧ q x) :
    ∃ l : List α, Sl w size A n c (l.map g) ∧ (∀ x ∈ l, q x) ∧ l.length = n := by
  obtain ⟨l, h1, h2⟩ := choose_list (p := fun r x => r = g x ∧ q x) rows hr
  have e : rows = l.map g := by
    apply List.ext_getElem?
    intro i
    rw [List.getElem?_map]
    by_cases hi : i < rows.length
    · have ea := List.getElem?_eq_getElem hi
      have eb := List.getElem?_eq_getElem (l := l) (i := i) (by omega)
      have := (h2 i _ _ ea eb).1
      rw [ea, eb, this]
      rfl
    · rw [List.getElem?_eq_none (by omega), List.getElem?_eq_none (by omega)]
      rfl
  subst e
  refine ⟨l, h, fun x hx => ?_, by have := h.1; simpa using this⟩
  obtain ⟨i, hi⟩ := List.getElem?_of_mem hx
  exact (h2 i (g x) x (by simp [hi]) hi).2

theorem cells_ints {e : TypeId} {k : IntKind} (ht : P.underlying t = some (.slice e)) (he : P.underlying e = some (.int k)) (hc : P.cellsOf e = 1) (h : Cells P w f t cs) :
    ∃ (A : Option Addr) (n c : Nat) (zs : List Int), cs = [.slice A n c] ∧ c * P.bytesOf e ≤ 140737488351232 ∧ Sl w 1 A n c (zs.map fun z => [.int k z]) ∧ (∀ z ∈ zs, (Lit.int k z).wf = true) ∧ zs.length = n := by
  obtain ⟨A, n, c, rows, rfl, hb, hr, hs⟩ := cells_slice ht (by omega) h
  rw [hc] at hs
  obtain ⟨zs, h1, h2, h3⟩ := sl_typed (fun z => [Value.int k z]) (q := fun z => (Lit.int k z).wf = true) hs fun r hm => by
    obtain ⟨f', hf'⟩ := hr r hm
    exact cells_int he hf'
  exact ⟨A, n, c, zs, rfl, hb, h1, h2, h3⟩
theorem cells_bools {e : TypeId} (ht : P.underlying t = some (.slice e)) (he : P.underlying e = some .bool) (hc : P.cellsOf e = 1) (h : Cells P w f t cs) :
    ∃ (A : Option Addr) (n c : Nat) (bs : List Bool), cs = [.slice A n c] ∧ c * P.bytesOf e ≤ 140737488351232 ∧ Sl w 1 A n c (bs.map fun z => [.bool z]) ∧ bs.length = n := by
  obtain ⟨A, n, c, rows, rfl, hb, hr, hs⟩ := cells_slice ht (by omega) h
  rw [hc] at hs
  obtain ⟨zs, h1, _, h3⟩ := sl_typed (fun z => [Value.bool z]) (q := fun _ => True) hs fun r hm => by
    obtain ⟨f', hf'⟩ := hr r hm
    obtain ⟨b, hb⟩ := cells_bool he hf'
    exact ⟨b, hb, trivial⟩
  exact ⟨A, n, c, zs, rfl, hb, h1, h3⟩
theorem cells_strings {e : TypeId} (ht : P.underlying t = some (.slice e)) (he : P.underlying e = some .string) (hc : P.cellsOf e = 1) (h : Cells P w f t cs) :
    ∃ (A : Option Addr) (n c : Nat) (ss : List (List UInt8)), cs = [.slice A n c] ∧ c * P.bytesOf e ≤ 140737488351232 ∧ Sl w 1 A n c (ss.map fun l => [.string (BS l)]) ∧ (∀ l ∈ ss, l.length ≤ 140737488351232) ∧ ss.length = n := by
  obtain ⟨A, n, c, rows, rfl, hb, hr, hs⟩ := cells_slice ht (by omega) h
  rw [hc] at hs
  obtain ⟨zs, h1, h2, h3⟩ := sl_typed (fun l => [Value.string (BS l)]) (q := fun l : List UInt8 => l.length ≤ 140737488351232) hs fun r hm => by
    obtain ⟨f', hf'⟩ := hr r hm
    exact cells_string he hf'
  exact ⟨A, n, c, zs, rfl, hb, h1, h2, h3⟩
end
end Arb
