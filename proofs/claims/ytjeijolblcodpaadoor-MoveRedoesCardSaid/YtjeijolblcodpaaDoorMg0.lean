/- Parts of the proof that all the laws of this package share, in their order. Each says what is in it. -/
import Derived.ProofKit
import Derived.WalkKit
import Derived.Maps.AppendAt
import Derived.Lib.Hide
import Derived.Lib.BufferRead
import Derived.OpenShut
import Derived.SizedLaws
import Derived.Deep.Slices
import Derived.Test.YtjeijolblcodpaaDoorProg
import Derived.Test.YtjeijolblcodpaaDoorChecked

/- The mathematics of stamps and vectors. -/
section
namespace Arb
set_option maxRecDepth 20000
set_option linter.unusedVariables false

/-- A stamp. -/
structure St where
  count : Int
  who : Int
deriving DecidableEq
def St.right (s : St) : Int := if s.count < 1 ∨ 1099511627776 < s.count ∨ s.who < 0 ∨ 15 ≤ s.who then 20 else 0
def St.less (a b : St) : Bool := decide (a.count < b.count ∨ (a.count = b.count ∧ a.who < b.who))
/-- The greatest count, 0 at least. -/
def topCount (l : List St) : Int := l.foldl (fun n s => max n s.count) 0
def nextSt (who : Int) (l : List St) : St × Int :=
  if who < 0 ∨ 15 ≤ who then (⟨0, 0⟩, 1) else if 1099511627776 ≤ topCount l then (⟨0, 0⟩, 21) else (⟨topCount l + 1, who⟩, 0)
/-- A vector's number at a place. -/
def vAt (v : List Int) (w : Nat) : Int := max (v.getD w 0) 0
def vJoin (l : List (List Int)) (w : Nat) : Int := l.foldl (fun n v => max n (vAt v w)) 0
def vMeet (l : List (List Int)) (w : Nat) : Int := l.foldl (fun n v => min n (vAt v w)) (vAt (l.headD []) w)
def longestOf (l : List (List Int)) : Nat := l.foldl (fun n v => max n v.length) 0
/-- Without the zeros at the end. -/
def trim : List Int → List Int
  | [] => []
  | x :: l => match trim l with
    | [] => if x = 0 then [] else [x]
    | y :: l' => x :: y :: l'
def joinOf (l : List (List Int)) : List Int := trim ((List.range (longestOf l)).map (vJoin l))
def meetOf (l : List (List Int)) : List Int := trim ((List.range (longestOf l)).map (vMeet l))
def coversOf (a b : List Int) : Bool := (List.range b.length).all fun w => decide (vAt b w ≤ vAt a w)
end Arb
end

/- Words and laws of our own on memory, over any program: slices that are read, append from whatever slice, and the last step of a law's row. -/
section
namespace Arb
set_option maxRecDepth 20000
open Go Go.RowKit

/-- The slice value v has m elements of 'size' cells each, and they are xs. -/
def Rd (w : World) (size : Nat) (v : Value) (m : Nat) (xs : List Value) : Prop :=
  xs.length = m * size ∧ ((v = .slice none 0 0 ∧ m = 0) ∨ ∃ ad c, v = .slice (some ad) m c ∧ ∀ j u, xs[j]? = some u → w.cell? (ad.add j) = some u)

theorem Rd.nil (w : World) (size : Nat) : Rd w size (.slice none 0 0) 0 [] := ⟨by simp, .inl ⟨rfl, rfl⟩⟩
theorem Rd.new (w : World) (cs : Array Value) (t : TypeId) (m c size : Nat) (h : cs.size = m * size) : Rd (w.alloc (.cells cs t)) size (.slice (some ⟨w.heap.size, 0, none⟩) m c) m cs.toList := by
  refine ⟨by simpa using h, .inr ⟨_, c, rfl, fun j u hu => ?_⟩⟩
  rw [Go.Lib.addr_add, Nat.zero_add, cell_of_row _ _ _ _ _ _ (heap_alloc_new w _)]
  simpa using hu
theorem Rd.own {w : World} {base : Nat} {e : TypeId} {size n : Nat} {v : Value} {xs : List Value} (h : w.ownsRow base e size v n xs) : Rd w size v n xs := by
  refine ⟨h.1, ?_⟩
  rcases h.2 with h2 | ⟨g, cap, cur, rfl, _⟩
  · exact .inl h2
  · exact .inr ⟨_, cap, rfl, h.cells (g := g) rfl⟩

section
variable {P : Program} {w : World}
theorem run_append_rd (base : Nat) (t ty e : TypeId) (i : TypeInfo) (z : Value) (size bytes : Nat) (ht : P.underlying t = some (.slice e)) (hi : P.info? e = some i) (hz : i.zero = some z)
    (hsize : i.size = size) (hby : i.bytes = bytes) (hzs : z.cells.size = size) (hsz : 0 < size)
    (v : Value) (n : Nat) (xs : List Value) (hown : w.ownsRow base e size v n xs)
    (vx : Value) (m : Nat) (news : List Value) (hr : Rd w size vx m news) (h1 : ∀ u ∈ news, u.oneCell' = true)
    (h63 : n + m ≤ maxLen) (hbytes : (n + m) * bytes ≤ 140737488355328) (hbase : base ≤ w.heap.size) :
    ∃ v' w', (Builtin.append_ #[t, t] ty #[v, vx]).run P w = .ok v' w' ∧ w'.ownsRow base e size v' (n + m) (xs ++ news) ∧ w.grownBy w' v.ownBlock ∧
      (v'.ownBlock = v.ownBlock ∨ v'.ownBlock = some w.heap.size) := by
  rcases hr.2 with ⟨rfl, rfl⟩ | ⟨ad, c, rfl, hc⟩
  · have hn : news = [] := List.eq_nil_of_length_eq_zero (by simpa using hr.1)
    subst hn
    exact ⟨v, w, run_append_owned_none w base t ty e i size ht hi v n xs hown, by simpa using hown, ⟨rfl, rfl, rfl, Nat.le_refl _, fun _ _ _ => rfl⟩, .inl rfl⟩
  · obtain ⟨v', w', h2, h3, h4, _, h5⟩ := run_append_own_at (P := P) w base t ty e i z size bytes ht hi hz hsize hby hzs hsz v n xs hown ad m c news hr.1 hc h1 h63 hbytes hbase
    exact ⟨v', w', h2, h3, h4, h5⟩

/-- append onto a row of the call's own, from whatever slice. -/
theorem wpList_append_rd {ops : Array Oper} {rest : List Oper} {o : Oper} {a : Act} {Q : Exit → Act → World → Prop} (hgd : o.guard = none) (s x : Operand) (t : TypeId)
    (ho : o.op = .call { callee := .builtin .append, args := #[s, x], argTypes := #[t, t] })
    (base : Nat) (e : TypeId) (i : TypeInfo) (z : Value) (size bytes : Nat) (ht : P.underlying t = some (.slice e)) (hi : P.info? e = some i) (hz : i.zero = some z)
    (hsize : i.size = size) (hby : i.bytes = bytes) (hzs : z.cells.size = size) (hsz : 0 < size)
    (v : Value) (n : Nat) (xs : List Value) (hs : a.eval s = v) (hown : w.ownsRow base e size v n xs)
    (vx : Value) (m : Nat) (news : List Value) (hx : a.eval x = vx) (hr : Rd w size vx m news) (h1 : ∀ u ∈ news, u.oneCell' = true)
    (h63 : n + m ≤ maxLen) (hbytes : (n + m) * bytes ≤ 140737488355328) (hbase : base ≤ w.heap.size)
    (h : ∀ v' w', w'.ownsRow base e size v' (n + m) (xs ++ news) → w.grownBy w' v.ownBlock → (v'.ownBlock = v.ownBlock ∨ v'.ownBlock = some w.heap.size) → wpList P ops Q rest (a.put o.dst v') w') :
    wpList P ops Q (o :: rest) a w := by
  refine wpList_plain hgd fun K hK => ?_
  obtain ⟨v', w', hrun, h2, h3, h4⟩ := run_append_rd (P := P) base t o.type e i z size bytes ht hi hz hsize hby hzs hsz v n xs hown vx m news hr h1 h63 hbytes hbase
  unfold Oper.wp execOp
  simp only [ho, resolve, invoke, builtin, Sem.run_bind, Sem.run_pure, Result.andThen_ok, List.map_toArray, List.map_cons, List.map_nil, hs, hx, hrun]
  exact hK _ _ (h v' w' h2 h3 h4)

/-- 'string(b)' of bytes that are read. -/
theorem run_string_rd (src dst e : TypeId) (v : Value) (m : Nat) (l : List UInt8) (hs : P.underlying src = some (.slice e)) (he : P.underlying e = some (.int .u8)) (hd : P.underlying dst = some .string)
    (h : Rd w 1 v m (Go.Lib.byteCells l)) : (convert src dst v).run P w = .ok (.string ⟨l.toArray⟩) w := by
  have hl : l.length = m := by have := h.1; rw [Go.Lib.byteCells_length] at this; omega
  rcases h.2 with ⟨rfl, rfl⟩ | ⟨ad, c, rfl, hc⟩
  · have : l = [] := List.eq_nil_of_length_eq_zero hl
    subst this
    exact Go.Lib.run_convert_nil_bytes w src dst e 0 hs he hd
  · subst hl
    exact run_convert_bytes_back w src dst e ad c l hs he hd fun j hj => hc j _ (by simp [Go.Lib.byteCells, hj])
end

theorem below_own {w w' : World} {base : Nat} {e : TypeId} {size n : Nat} {v : Value} {xs : List Value} (h : w.ownsRow base e size v n xs) (hb : Below w.heap.size w w') : w'.ownsRow base e size v n xs :=
  h.kept (row := none) ⟨hb.os, hb.tape, hb.output, hb.size, fun k hk _ => hb.block k hk⟩ (by cases v.ownBlock <;> simp)

theorem own_kept {w w' : World} {base : Nat} {e : TypeId} {size n : Nat} {v : Value} {xs : List Value} (h : w.ownsRow base e size v n xs) (hb : w.grownBy w' none) : w'.ownsRow base e size v n xs :=
  h.kept hb (by cases v.ownBlock <;> simp)
theorem grown_below {a b c : World} {row : Option Nat} (h : Below a.heap.size a b) (k : b.grownBy c row) : a.grownBy c row :=
  ⟨k.os.trans h.os, k.tape.trans h.tape, k.output.trans h.output, Nat.le_trans h.size k.size, fun i hi hr => (k.block i (Nat.lt_of_lt_of_le hi h.size) hr).trans (h.block i hi)⟩
theorem grownBy_trans {a b c : World} {row : Option Nat} (h : a.grownBy b row) (k : b.grownBy c row) : a.grownBy c row :=
  ⟨k.os.trans h.os, k.tape.trans h.tape, k.output.trans h.output, Nat.le_trans h.size k.size, fun i hi hr => (k.block i (Nat.lt_of_lt_of_le hi h.size) hr).trans (h.block i hi hr)⟩
theorem one_int (k : IntKind) (x : Int) : ∀ u ∈ [Value.int k x], u.oneCell' = true := by simp [Value.oneCell']

/-- What the walk itself makes of append(nil slice, x). -/
theorem own_first (w : World) (A : Obj) (b z : Value) (e base cap : Nat) (hb : base ≤ w.heap.size) (h1 : 1 ≤ cap) (h2 : cap ≤ maxLen) :
    (((w.alloc A).alloc (.cells (#[b] ++ Builtin.zeroCells #[z] (cap - 1)) e)).drew).ownsRow base e 1 (.slice (some ⟨w.heap.size + 1, 0, none⟩) 1 cap) 1 [b] := by
  refine ⟨by simp, .inr ⟨w.heap.size + 1, cap, #[b] ++ Builtin.zeroCells #[z] (cap - 1), rfl, by omega, ?_, h1, h2, ?_, ?_⟩⟩
  · have h := heap_alloc_new (w.alloc A) (.cells (#[b] ++ Builtin.zeroCells #[z] (cap - 1)) e)
    rw [World.size_alloc] at h
    exact h
  · simp [size_zeroCells]; omega
  · simp

/-- The last step of a law's row whose readings lie in memory: it has turned nothing that was there. -/
theorem post_of_below {H : Type} {enc : TypeId × Value → H} {P : Program} {f : Func} {s : ChangeSpec} {apart fresh handsOn : Bool} {W W' : World} {args : Array Value} {v : Value} {ds gs : List (DataW H)} {before pa pv : List MemPlace}
    (hW : DataW.Whole enc P f.params.toList s.vars apart W args.toList ds gs before)
    (hres : ∀ b, DataW.TrodAll enc P W' b (fun _ => false) handsOn f.resultTypes.toList (v.resultList f.resultTypes.size) (s.fn H (ds ++ gs)).results [])
    (hargs : DataW.TrodAll enc P W' 0 (fun b => decide (b < W.heap.size)) true f.params.toList args.toList (s.fn H (ds ++ gs)).args pa)
    (hvars : DataW.TrodVars enc P W' (fun b => decide (b < W.heap.size)) s.vars (s.fn H (ds ++ gs)).vars pv)
    (hb : Below W.heap.size W W') : s.post enc P f apart fresh handsOn false W args v W' := by
  refine ⟨ds, gs, before, [], pa, pv, hW, hres _, hargs, hvars, hb.frame _, fun h => by cases h⟩
end Arb
end

/- What is known of the cells of an argument that can be read as data: whatever its type is made of (numbers, bools, texts, structs, arrays, slices). -/
section
namespace Arb
set_option maxRecDepth 20000
open Go Go.RowKit Go.ChangeShapes Go.WideShapes

/-- Bytes as a string. -/
def BS (l : List UInt8) : ByteArray := ⟨l.toArray⟩
theorem BS_list (l : List UInt8) : (BS l).data.toList = l := by simp [BS]
theorem BS_size (l : List UInt8) : (BS l).size = l.length := by simp [BS, ByteArray.size]
theorem BS_extract (l : List UInt8) (a b : Nat) : (BS l).extract a b = BS ((l.drop a).take (b - a)) := by rw [Go.Lib.extract_eq, BS_list]; rfl
theorem BS_tail (l : List UInt8) (a : Nat) : (BS l).extract a (BS l).size = BS (l.drop a) := by
  rw [BS_extract, BS_size, List.take_of_length_le (by simp)]
theorem BS_data (s : ByteArray) : BS s.data.toList = s := Go.Lib.mk_data s
/-- The first bytes of BS l, for the walk. -/
theorem BS_get (l : List UInt8) (i : Nat) (h : i < (BS l).size) : (BS l)[i] = l[i]'(by rw [BS_size] at h; exact h) := rfl
theorem BS_beq (l m : List UInt8) : ((BS l).toList == m) = decide (l = m) := by
  rw [Go.Lib.toList_data, BS_list]
  by_cases h : l = m
  · subst h; simp
  · simp [h]

/-- The cells cs are a value of type t in the world w. -/
def Cells (P : Program) (w : World) : Nat → TypeId → List Value → Prop
  | 0, _, _ => False
  | f + 1, t, cs => match P.underlying t with
    | some .bool => ∃ b, cs = [.bool b]
    | some (.int k) => ∃ z, cs = [.int k z] ∧ (Lit.int k z).wf = true
    | some .string => ∃ l, cs = [.string (BS l)] ∧ l.length ≤ 140737488351232
    | some (.slice e) => cs = [.slice none 0 0] ∨ ∃ (ad : Addr) (len cap : Nat) (rows : List (List Value)), cs = [.slice (some ad) len cap] ∧ len ≤ cap ∧ cap * P.bytesOf e ≤ 140737488351232 ∧ rows.length = len ∧
        (∀ r ∈ rows, r.length = P.cellsOf e ∧ Cells P w f e r) ∧ ∀ i r, rows[i]? = some r → ∀ j u, r[j]? = some u → w.cell? (ad.add (i * P.cellsOf e + j)) = some u
    | some (.struct fs) => cs.length = P.cellsOf t ∧ ∀ (i : Nat) (fd : Field), fs[i]? = some fd → Cells P w f fd.type ((cs.drop fd.offset).take (P.cellsOf fd.type))
    | some (.array n e) => cs.length = P.cellsOf t ∧ ∀ i, i < n → Cells P w f e ((cs.drop (i * P.cellsOf e)).take (P.cellsOf e))
    | _ => True

section
variable {H : Type} {enc : TypeId × Value → H} {P : Program} {w : World}

theorem weightsAll_mem : ∀ {ds : List (DataW H)} {e : TypeId} {d : DataW H}, d ∈ ds → ∀ n ∈ d.weights P e, n ∈ DataW.weightsAll P e ds
  | d0 :: ds, e, d, hd, n, hn => by
    simp only [DataW.weightsAll, List.mem_append]
    rcases List.mem_cons.1 hd with rfl | hd
    · exact .inl hn
    · exact .inr (weightsAll_mem hd n hn)

theorem cells_of_trod {base : Nat} {held : Bool} : ∀ (fuel : Nat) (t : TypeId) (cs : List Value) (x : DataW H × List MemPlace), DataW.trod enc P w base (fun _ => true) held fuel t cs = some x →
    (∀ n ∈ x.1.weights P t, n ≤ 140737488351232) → Cells P w fuel t cs := by
  intro fuel
  induction fuel with
  | zero => intro t cs x h; simp [DataW.trod] at h
  | succ f ih =>
    intro t cs x h hw
    unfold Cells
    split
    · rename_i ht
      obtain ⟨b, rfl, _⟩ := DataW.trod_bool ht h
      exact ⟨b, rfl⟩
    · rename_i k ht
      obtain ⟨n, rfl, _, hwf⟩ := DataW.trod_int ht h
      exact ⟨n, rfl, hwf⟩
    · rename_i ht
      obtain ⟨s, rfl, rfl, _⟩ := DataW.trod_string ht h
      refine ⟨s.data.toList, by rw [BS_data], ?_⟩
      exact hw _ (by simp [DataW.weights])
    · rename_i e ht
      rcases DataW.trod_slice ht h with ⟨rfl, _⟩ | ⟨a, len, cap, elems, rest, n, hf, rfl, rfl, hb, hl, hm, hlen, hel, hsp, _⟩
      · exact .inl rfl
      · obtain rfl : f = n := by omega
        obtain ⟨hrl, _⟩ := hsp rfl
        right
        simp only [DataW.weights, ht, List.length_map] at hw
        have hcap : cap * P.bytesOf e ≤ 140737488351232 := by
          have := hw _ (List.mem_cons_self ..)
          rw [hrl, hlen] at this
          rwa [show len + (cap - len) = cap by omega] at this
        have each : ∀ i, i < len → ∃ r, w.cells? base (a.add (i * P.cellsOf e)) (P.cellsOf e) = some r ∧ Cells P w f e r := by
          intro i hi
          have h1 := hel i hi
          obtain ⟨y, hy⟩ : ∃ y, elems[i]? = some y := ⟨elems[i]'(by omega), List.getElem?_eq_getElem _⟩
          rw [hy, Option.bind_eq_some_iff] at h1
          obtain ⟨r, hr, ht'⟩ := h1
          refine ⟨r, hr, ih e r y ht' fun m hm' => hw m (List.mem_cons_of_mem _ (List.mem_append.2 (.inl (weightsAll_mem (d := y.1) ?_ m hm'))))⟩
          exact List.mem_map.2 ⟨y, List.mem_of_getElem? hy, rfl⟩
        obtain ⟨V, hV⟩ := Go.Deep.choose_lt (α := List Value) (p := fun i r => w.cells? base (a.add (i * P.cellsOf e)) (P.cellsOf e) = some r ∧ Cells P w f e r) each
        refine ⟨a, len, cap, (List.range len).map V, rfl, hl, hcap, by simp, ?_, ?_⟩
        · intro r hr
          obtain ⟨i, hi, rfl⟩ := List.mem_map.1 hr
          obtain ⟨h1, h2⟩ := hV i (List.mem_range.1 hi)
          exact ⟨(World.cells?_some h1).2.1, h2⟩
        · intro i r hr j u hu
          have hi : i < len := by
            have := (List.getElem?_eq_some_iff.1 hr).1
            simpa using this
          have hr' : r = V i := by simpa [hi] using hr.symm
          subst hr'
          obtain ⟨h1, _⟩ := hV i hi
          obtain ⟨_, hcl, hat⟩ := World.cells?_some h1
          have hj : j < P.cellsOf e := by
            have := (List.getElem?_eq_some_iff.1 hu).1
            omega
          rw [← Go.Deep.add_add, hat j hj, hu]
    · rename_i fs ht
      obtain ⟨xs, n, hf, rfl, hlen, hxl, hg⟩ := DataW.trod_struct ht h
      obtain rfl : f = n := by omega
      refine ⟨hlen, fun i fd hfd => ?_⟩
      have h1 := hg i fd hfd
      have hi : i < xs.length := by rw [hxl]; exact (Array.getElem?_eq_some_iff.1 hfd).1
      rw [List.getElem?_eq_getElem hi] at h1
      refine ih _ _ _ h1 fun m hm => hw m ?_
      simp only [DataW.weights, ht]
      exact DataW.weights_mem_each (j := i) (by simp [hfd]) (by simp [hi]) m hm
    · rename_i k e ht
      obtain ⟨xs, n, hf, rfl, hlen, hxl, hg⟩ := DataW.trod_array ht h
      obtain rfl : f = n := by omega
      refine ⟨hlen, fun i hi => ?_⟩
      have h1 := hg i hi
      have hi' : i < xs.length := by omega
      rw [List.getElem?_eq_getElem hi'] at h1
      refine ih _ _ _ h1 fun m hm => hw m ?_
      simp only [DataW.weights, ht]
      exact weightsAll_mem (d := xs[i].1) (List.mem_map.2 ⟨_, List.getElem_mem hi', rfl⟩) m hm
    · trivial

theorem cells_of_arg {base : Nat} {held : Bool} {ts : List TypeId} {ds : List (DataW H)} (hsz : (DataW.weightsEach P ts ds).all (· ≤ reachBytes) = true) {j : Nat} {t : TypeId} {v : Value} {d : DataW H} {ps : List MemPlace}
    (ht : ts[j]? = some t) (hd : ds[j]? = some d) (h : DataW.Trod enc P w base (fun _ => true) held t v d ps) : ∃ f, Cells P w f t v.cells.toList := by
  obtain ⟨f, hf⟩ := h
  refine ⟨f, cells_of_trod f t _ _ hf fun n hn => ?_⟩
  have := List.all_eq_true.1 hsz _ (DataW.weights_mem_each ht hd n hn)
  exact of_decide_eq_true this
end

section
variable {P : Program} {w w' : World} {f : Nat} {t : TypeId} {cs : List Value}
theorem cells_bool (ht : P.underlying t = some .bool) (h : Cells P w f t cs) : ∃ b, cs = [.bool b] := by
  cases f with
  | zero => exact h.elim
  | succ f => unfold Cells at h; rw [ht] at h; exact h
theorem cells_int {k : IntKind} (ht : P.underlying t = some (.int k)) (h : Cells P w f t cs) : ∃ z, cs = [.int k z] ∧ (Lit.int k z).wf = true := by
  cases f with
  | zero => exact h.elim
  | succ f => unfold Cells at h; rw [ht] at h; exact h
theorem cells_string (ht : P.underlying t = some .string) (h : Cells P w f t cs) : ∃ l, cs = [.string (BS l)] ∧ l.length ≤ 140737488351232 := by
  cases f with
  | zero => exact h.elim
  | succ f => unfold Cells at h; rw [ht] at h; exact h
theorem cells_struct {fs : Array Field} (ht : P.underlying t = some (.struct fs)) (h : Cells P w f t cs) :
    cs.length = P.cellsOf t ∧ ∀ (i : Nat) (fd : Field), fs[i]? = some fd → ∃ f', Cells P w f' fd.type ((cs.drop fd.offset).take (P.cellsOf fd.type)) := by
  cases f with
  | zero => exact h.elim
  | succ f =>
    unfold Cells at h; rw [ht] at h
    exact ⟨h.1, fun i fd hfd => ⟨f, h.2 i fd hfd⟩⟩
theorem cells_array {n : Nat} {e : TypeId} (ht : P.underlying t = some (.array n e)) (h : Cells P w f t cs) :
    cs.length = P.cellsOf t ∧ ∀ i, i < n → ∃ f', Cells P w f' e ((cs.drop (i * P.cellsOf e)).take (P.cellsOf e)) := by
  cases f with
  | zero => exact h.elim
  | succ f =>
    unfold Cells at h; rw [ht] at h
    exact ⟨h.1, fun i hi => ⟨f, h.2 i hi⟩⟩

/-- The slice A, n, c has the elements whose cells are the rows. -/
def Sl (w : World) (size : Nat) (A : Option Addr) (n c : Nat) (rows : List (List Value)) : Prop :=
  rows.length = n ∧ n ≤ c ∧ (A = none → c = 0) ∧
    (0 < n → ∃ b off, A = some ⟨b, off, none⟩ ∧ ∀ i r, rows[i]? = some r → r.length = size ∧ ∀ j u, r[j]? = some u → w.cell? ⟨b, off + i * size + j, none⟩ = some u)

theorem spot_none {a : Addr} {u : Value} (h : w.cell? a = some u) : a = ⟨a.block, a.off, none⟩ := by
  unfold World.cell? at h
  split at h
  · split at h
    · cases h
    · rename_i hs
      obtain ⟨b, o, s⟩ := a
      cases s with
      | none => rfl
      | some _ => simp at hs
  · cases h

theorem cells_slice {e : TypeId} (ht : P.underlying t = some (.slice e)) (hsz : 0 < P.cellsOf e) (h : Cells P w f t cs) :
    ∃ A n c rows, cs = [.slice A n c] ∧ c * P.bytesOf e ≤ 140737488351232 ∧ (∀ r ∈ rows, ∃ f', Cells P w f' e r) ∧ Sl w (P.cellsOf e) A n c rows := by
  cases f with
  | zero => exact h.elim
  | succ f =>
    unfold Cells at h; rw [ht] at h
    rcases h with rfl | ⟨ad, len, cap, rows, rfl, hl, hb, hr, hrow, hc⟩
    · exact ⟨none, 0, 0, [], rfl, by omega, by simp, rfl, Nat.le_refl _, fun _ => rfl, fun h => absurd h (by omega)⟩
    · refine ⟨some ad, len, cap, rows, rfl, hb, fun r hm => ⟨f, (hrow r hm).2⟩, hr, hl, (fun h => by cases h), fun hn => ?_⟩
      have h0 : rows[0]? = some (rows[0]'(by omega)) := List.getElem?_eq_getElem _
      have hl0 := (hrow _ (List.mem_of_getElem? h0)).1
      have h1 := hc 0 _ h0 0 _ (List.getElem?_eq_getElem (by omega))
      have hs := spot_none h1
      have had : ad.add (0 * P.cellsOf e + 0) = ad := by simp [Addr.add]
      rw [had] at hs
      refine ⟨ad.block, ad.off, congrArg some hs, fun i r hi => ⟨(hrow r (List.mem_of_getElem? hi)).1, fun j u hu => ?_⟩⟩
      have h2 := hc i r hi j u hu
      rw [hs, Go.Lib.addr_add] at h2
      rw [Nat.add_assoc]
      exact h2

theorem Sl.below {size : Nat} {A : Option Addr} {n c : Nat} {rows : List (List Value)} (h : Sl w size A n c rows) (hb : Below w.heap.size w w') : Sl w' size A n c rows := by
  refine ⟨h.1, h.2.1, h.2.2.1, fun hn => ?_⟩
  obtain ⟨b, off, hA, hr⟩ := h.2.2.2 hn
  refine ⟨b, off, hA, fun i r hi => ⟨(hr i r hi).1, fun j u hu => ?_⟩⟩
  have h1 := (hr i r hi).2 j u hu
  rw [hb.cell (block_lt_of_cell h1)]
  exact h1
theorem Sl.cell1 {α : Type} {A : Option Addr} {n c : Nat} {g : α → Value} {l : List α} (h : Sl w 1 A n c (l.map fun x => [g x])) {k : Nat} (hk : k < n) :
    ∃ b off x, A = some ⟨b, off, none⟩ ∧ l[k]? = some x ∧ w.cell? ⟨b, off + k, none⟩ = some (g x) := by
  obtain ⟨b, off, hA, hr⟩ := h.2.2.2 (by omega)
  have hkl : k < l.length := by have := h.1; simp at this; omega
  refine ⟨b, off, l[k], hA, List.getElem?_eq_getElem hkl, ?_⟩
  have := (hr k [g l[k]] (by simp [hkl])).2 0 (g l[k]) rfl
  simpa using this

theorem choose_list {α β : Type} {p : β → α → Prop} : ∀ (l : List β), (∀ b ∈ l, ∃ a, p b a) → ∃ l' : List α, l'.length = l.length ∧ ∀ (i : Nat) b a, l[i]? = some b → l'[i]? = some a → p b a
  | [], _ => ⟨[], rfl, by simp⟩
  | b :: l, h => by
    obtain ⟨a, ha⟩ := h b (List.mem_cons_self ..)
    obtain ⟨l', h1, h2⟩ := choose_list l fun b' hb' => h b' (List.mem_cons_of_mem _ hb')
    refine ⟨a :: l', by simp [h1], fun i b' a' => ?_⟩
    cases i with
    | zero =>
      intro e1 e2
      simp at e1 e2
      subst e1; subst e2
      exact ha
    | succ i =>
      intro e1 e2
      exact h2 i b' a' (by simpa using e1) (by simpa using e2)

/-- A slice whose elements are of the form g x. -/
theorem sl_typed {α : Type} {size : Nat} {A : Option Addr} {n c : Nat} {rows : List (List Value)} (g : α → List Value) {q : α → Prop} (h : Sl w size A n c rows) (hr : ∀ r ∈ rows, ∃ x, r = g x ∧ q x) :
    ∃ l : List α, Sl w size A n c (l.map g) ∧ (∀ x ∈ l, q x) ∧ l.length = n := by
  obtain ⟨l, h1, h2⟩ := choose_list (p := fun r x => r = g x ∧ q x) rows hr
  have e : rows = l.map g := by
    apply List.ext_getElem?
    intro i
    rw [List.getElem?_map]
    by_cases hi : i < rows.length
    · have ea := List.getElem?_eq_getElem hi
      have eb := List.getElem?_eq_getElem (l := l) (i := i) (by omega)
      have := (h2 i _ _ ea eb).1
      rw [ea, eb, this]
      rfl
    · rw [List.getElem?_eq_none (by omega), List.getElem?_eq_none (by omega)]
      rfl
  subst e
  refine ⟨l, h, fun x hx => ?_, by have := h.1; simpa using this⟩
  obtain ⟨i, hi⟩ := List.getElem?_of_mem hx
  exact (h2 i (g x) x (by simp [hi]) hi).2

theorem cells_ints {e : TypeId} {k : IntKind} (ht : P.underlying t = some (.slice e)) (he : P.underlying e = some (.int k)) (hc : P.cellsOf e = 1) (h : Cells P w f t cs) :
    ∃ (A : Option Addr) (n c : Nat) (zs : List Int), cs = [.slice A n c] ∧ c * P.bytesOf e ≤ 140737488351232 ∧ Sl w 1 A n c (zs.map fun z => [.int k z]) ∧ (∀ z ∈ zs, (Lit.int k z).wf = true) ∧ zs.length = n := by
  obtain ⟨A, n, c, rows, rfl, hb, hr, hs⟩ := cells_slice ht (by omega) h
  rw [hc] at hs
  obtain ⟨zs, h1, h2, h3⟩ := sl_typed (fun z => [Value.int k z]) (q := fun z => (Lit.int k z).wf = true) hs fun r hm => by
    obtain ⟨f', hf'⟩ := hr r hm
    exact cells_int he hf'
  exact ⟨A, n, c, zs, rfl, hb, h1, h2, h3⟩
theorem cells_bools {e : TypeId} (ht : P.underlying t = some (.slice e)) (he : P.underlying e = some .bool) (hc : P.cellsOf e = 1) (h : Cells P w f t cs) :
    ∃ (A : Option Addr) (n c : Nat) (bs : List Bool), cs = [.slice A n c] ∧ c * P.bytesOf e ≤ 140737488351232 ∧ Sl w 1 A n c (bs.map fun z => [.bool z]) ∧ bs.length = n := by
  obtain ⟨A, n, c, rows, rfl, hb, hr, hs⟩ := cells_slice ht (by omega) h
  rw [hc] at hs
  obtain ⟨zs, h1, _, h3⟩ := sl_typed (fun z => [Value.bool z]) (q := fun _ => True) hs fun r hm => by
    obtain ⟨f', hf'⟩ := hr r hm
    obtain ⟨b, hb⟩ := cells_bool he hf'
    exact ⟨b, hb, trivial⟩
  exact ⟨A, n, c, zs, rfl, hb, h1, h3⟩
theorem cells_strings {e : TypeId} (ht : P.underlying t = some (.slice e)) (he : P.underlying e = some .string) (hc : P.cellsOf e = 1) (h : Cells P w f t cs) :
    ∃ (A : Option Addr) (n c : Nat) (ss : List (List UInt8)), cs = [.slice A n c] ∧ c * P.bytesOf e ≤ 140737488351232 ∧ Sl w 1 A n c (ss.map fun l => [.string (BS l)]) ∧ (∀ l ∈ ss, l.length ≤ 140737488351232) ∧ ss.length = n := by
  obtain ⟨A, n, c, rows, rfl, hb, hr, hs⟩ := cells_slice ht (by omega) h
  rw [hc] at hs
  obtain ⟨zs, h1, h2, h3⟩ := sl_typed (fun l => [Value.string (BS l)]) (q := fun l : List UInt8 => l.length ≤ 140737488351232) hs fun r hm => by
    obtain ⟨f', hf'⟩ := hr r hm
    exact cells_string he hf'
  exact ⟨A, n, c, zs, rfl, hb, h1, h2, h3⟩
end
end Arb
end

/- Stamps and vectors as arguments: what lies in their cells. -/
section
namespace Go.Proofs.YtjeijolblcodpaaDoor.W
set_option maxRecDepth 20000
set_option linter.unusedVariables false
open Go.RowKit Go.Proofs Arb Go.WideShapes

def stCells (s : St) : List Value := [.int .i64 s.count, .int .i64 s.who]
def stVal (s : St) : Value := .agg #[.int .i64 s.count, .int .i64 s.who]
def stWf (s : St) : Prop := (Lit.int .i64 s.count).wf = true ∧ (Lit.int .i64 s.who).wf = true

theorem cells_St {w : World} {f : Nat} {cs : List Value} (h : Cells Tryd.prog w f 33 cs) : ∃ s : St, cs = stCells s ∧ stWf s := by
  obtain ⟨hl, hf⟩ := cells_struct Tryd.underlying33 h
  rw [show Tryd.prog.cellsOf 33 = 2 by kernel_rfl] at hl
  match cs, hl with
  | [x0, x1], _ =>
    have hc : Tryd.prog.cellsOf 3 = 1 := by kernel_rfl
    obtain ⟨f0, h0⟩ : ∃ f', Cells Tryd.prog w f' 3 [x0] := by
      obtain ⟨f', h⟩ := hf 0 _ rfl
      exact ⟨f', by simpa [hc] using h⟩
    obtain ⟨f1, h1⟩ : ∃ f', Cells Tryd.prog w f' 3 [x1] := by
      obtain ⟨f', h⟩ := hf 1 _ rfl
      exact ⟨f', by simpa [hc] using h⟩
    obtain ⟨a, ea, wa⟩ := cells_int Tryd.underlying3 h0
    obtain ⟨b, eb, wb⟩ := cells_int Tryd.underlying3 h1
    simp at ea eb
    exact ⟨⟨a, b⟩, by simp [stCells, ea, eb], wa, wb⟩

end Go.Proofs.YtjeijolblcodpaaDoor.W
end

/- The mathematics of names: which texts may be names, endings, copies. -/
section
namespace Arb
set_option maxRecDepth 20000
set_option linter.unusedVariables false

def okByte (b : UInt8) : Bool := decide (32 ≤ b.toNat ∧ b.toNat ≤ 126 ∧ b.toNat ≠ 47)
/-- The first and the last byte, the length, the two texts that are no names. -/
def nmHead (l : List UInt8) : Bool := decide (1 ≤ l.length ∧ l.length ≤ 24 ∧ l ≠ [46] ∧ l ≠ [46, 46] ∧ l.head? ≠ some 32 ∧ l.getLast? ≠ some 32)
def nmOk (l : List UInt8) : Bool := nmHead l && l.all okByte
def nmRight (l : List UInt8) : Int := if nmOk l then 0 else 23
/-- What stands behind the last '.'. -/
def extGo : List UInt8 → Option (List UInt8)
  | [] => none
  | b :: r => match extGo r with
    | some e => some e
    | none => if b = 46 then some r else none
def ext : List UInt8 → List UInt8
  | [] => []
  | _ :: r => (extGo r).getD []
def dg (n : Nat) : List UInt8 := if n < 10 then [UInt8.ofNat (48 + n)] else dg (n / 10) ++ [UInt8.ofNat (48 + n % 10)]
decreasing_by omega
def behindOf (s : List UInt8) : List UInt8 := if 1 ≤ (ext s).length ∧ (ext s).length ≤ 7 then 46 :: ext s else []
def tailOf (s : List UInt8) (n : Nat) : List UInt8 := 126 :: dg n ++ behindOf s
def copyOf (s : List UInt8) (n : Nat) : List UInt8 := (s.take (s.length - (behindOf s).length)).take (24 - (tailOf s n).length) ++ tailOf s n
/-- What Copy answers. -/
def copyRes (s : List UInt8) (n : Int) : List UInt8 × Int := if nmOk s then (if n < 1 ∨ 9999 < n then ([], 1) else (copyOf s n.toNat, 0)) else ([], 23)

theorem extGo_none : ∀ l : List UInt8, extGo l = none ↔ (46 : UInt8) ∉ l
  | [] => by simp [extGo]
  | b :: r => by
    have ih := extGo_none r
    unfold extGo
    cases h : extGo r with
    | some e =>
      have : (46 : UInt8) ∈ r := by
        by_cases hm : (46 : UInt8) ∈ r
        · exact hm
        · rw [ih.2 hm] at h; cases h
      simp [this]
    | none =>
      have hr := ih.1 h
      by_cases hb : b = 46
      · simp [hb]
      · simp [hb, hr, Ne.symm hb]
theorem extGo_some : ∀ (l e : List UInt8), extGo l = some e → ∃ p, l = p ++ 46 :: e ∧ (46 : UInt8) ∉ e
  | [], e, h => by simp [extGo] at h
  | b :: r, e, h => by
    unfold extGo at h
    cases h' : extGo r with
    | some e' =>
      rw [h'] at h
      simp only [Option.some.injEq] at h
      subst h
      obtain ⟨p, hp, hn⟩ := extGo_some r e' h'
      exact ⟨b :: p, by rw [hp]; rfl, hn⟩
    | none =>
      rw [h'] at h
      simp only at h
      split at h
      · rename_i hb
        simp only [Option.some.injEq] at h
        subst h; subst hb
        exact ⟨[], rfl, (extGo_none r).1 h'⟩
      · cases h
theorem extGo_found (p e : List UInt8) (h : (46 : UInt8) ∉ e) : extGo (p ++ 46 :: e) = some e := by
  induction p with
  | nil => simp [extGo, (extGo_none e).2 h]
  | cons b p ih => simp [extGo, ih]
theorem ext_found (p e : List UInt8) (hp : p ≠ []) (h : (46 : UInt8) ∉ e) : ext (p ++ 46 :: e) = e := by
  match p, hp with
  | b :: p, _ => simp [ext, extGo_found p e h]
theorem ext_none (l : List UInt8) (h : (46 : UInt8) ∉ l.tail) : ext l = [] := by
  match l with
  | [] => rfl
  | b :: r => simp [ext, (extGo_none r).2 h]
/-- Either there is no ending, or the text parts at its last '.', which is not its first byte. -/
theorem ext_cases (l : List UInt8) : ext l = [] ∨ ∃ p, p ≠ [] ∧ l = p ++ 46 :: ext l ∧ (46 : UInt8) ∉ ext l := by
  match l with
  | [] => exact .inl rfl
  | b :: r =>
    cases h : extGo r with
    | none => exact .inl (by simp [ext, h])
    | some e =>
      obtain ⟨p, hp, hn⟩ := extGo_some r e h
      have he : ext (b :: r) = e := by simp [ext, h]
      exact .inr ⟨b :: p, by simp, by rw [he, hp]; rfl, by rw [he]; exact hn⟩
theorem behind_cases (s : List UInt8) : (behindOf s = [] ∧ ¬ (1 ≤ (ext s).length ∧ (ext s).length ≤ 7)) ∨
    ∃ p, p ≠ [] ∧ s = p ++ behindOf s ∧ behindOf s = 46 :: ext s ∧ (46 : UInt8) ∉ ext s ∧ 1 ≤ (ext s).length ∧ (ext s).length ≤ 7 := by
  unfold behindOf
  by_cases h : 1 ≤ (ext s).length ∧ (ext s).length ≤ 7
  · rw [if_pos h]
    rcases ext_cases s with he | ⟨p, hp, hs, hn⟩
    · rw [he] at h; simp at h
    · exact .inr ⟨p, hp, hs, rfl, hn, h.1, h.2⟩
  · rw [if_neg h]; exact .inl ⟨rfl, h⟩
theorem dg_one (n : Nat) (h : n < 10) : dg n = [UInt8.ofNat (48 + n)] := by rw [dg, if_pos h]
theorem dg_more (n : Nat) (h : 10 ≤ n) : dg n = dg (n / 10) ++ [UInt8.ofNat (48 + n % 10)] := by rw [dg, if_neg (by omega)]
theorem dg_pos (n : Nat) : 1 ≤ (dg n).length := by
  by_cases h : n < 10
  · rw [dg_one n h]; simp
  · rw [dg_more n (by omega)]; simp
theorem dg_len (n : Nat) (h : n ≤ 9999) : (dg n).length ≤ 4 := by
  by_cases h1 : n < 10
  · rw [dg_one n h1]; simp
  · rw [dg_more n (by omega)]
    by_cases h2 : n / 10 < 10
    · rw [dg_one _ h2]; simp
    · rw [dg_more _ (by omega)]
      by_cases h3 : n / 10 / 10 < 10
      · rw [dg_one _ h3]; simp
      · rw [dg_more _ (by omega), dg_one (n / 10 / 10 / 10) (by omega)]; simp
theorem digit_nat (d : Nat) (h : d < 10) : (UInt8.ofNat (48 + d)).toNat = 48 + d := by
  rw [UInt8.toNat_ofNat']
  omega
theorem dg_digits : ∀ (n : Nat), ∀ b ∈ dg n, 48 ≤ b.toNat ∧ b.toNat ≤ 57 := by
  intro n
  induction n using Nat.strongRecOn with
  | ind n ih =>
    intro b hb
    by_cases h : n < 10
    · rw [dg_one n h] at hb
      simp only [List.mem_singleton] at hb
      subst hb
      rw [digit_nat n h]; omega
    · rw [dg_more n (by omega)] at hb
      rcases List.mem_append.1 hb with hb | hb
      · exact ih (n / 10) (by omega) b hb
      · simp only [List.mem_singleton] at hb
        subst hb
        rw [digit_nat _ (by omega)]; omega
def undg (l : List UInt8) : Nat := l.foldl (fun n b => n * 10 + (b.toNat - 48)) 0
theorem undg_dg : ∀ n, undg (dg n) = n := by
  intro n
  induction n using Nat.strongRecOn with
  | ind n ih =>
    by_cases h : n < 10
    · rw [dg_one n h]
      show 0 * 10 + ((UInt8.ofNat (48 + n)).toNat - 48) = n
      rw [digit_nat n h]; omega
    · rw [dg_more n (by omega)]
      have := ih (n / 10) (by omega)
      unfold undg at *
      rw [List.foldl_append, this]
      show n / 10 * 10 + ((UInt8.ofNat (48 + n % 10)).toNat - 48) = n
      rw [digit_nat _ (by omega)]; omega
theorem last_split (a b x y : List UInt8) (c : UInt8) (hx : c ∉ x) (hy : c ∉ y) (h : a ++ c :: x = b ++ c :: y) : x = y := by
  rcases List.append_eq_append_iff.1 h with ⟨t, h1, h2⟩ | ⟨t, h1, h2⟩
  · cases t with
    | nil => simpa using h2
    | cons d t =>
      simp only [List.cons_append, List.cons.injEq] at h2
      exact absurd (by rw [h2.2]; simp) hx
  · cases t with
    | nil => simpa using h2.symm
    | cons d t =>
      simp only [List.cons_append, List.cons.injEq] at h2
      exact absurd (by rw [h2.2]; simp) hy
theorem tilde_dg (n : Nat) : (126 : UInt8) ∉ dg n := fun h => by
  have := dg_digits n _ h
  have e : (126 : UInt8).toNat = 126 := rfl
  omega
theorem copy_inj (s : List UInt8) (n m : Nat) (h : copyOf s n = copyOf s m) : n = m := by
  unfold copyOf tailOf at h
  rw [← List.append_assoc, ← List.append_assoc] at h
  have h2 := List.append_cancel_right h
  have := last_split _ _ _ _ 126 (tilde_dg n) (tilde_dg m) h2
  rw [← undg_dg n, this, undg_dg]
theorem ok_spec (l : List UInt8) : nmOk l = true ↔ (1 ≤ l.length ∧ l.length ≤ 24 ∧ l ≠ [46] ∧ l ≠ [46, 46] ∧ l.head? ≠ some 32 ∧ l.getLast? ≠ some 32) ∧ ∀ b ∈ l, okByte b = true := by
  unfold nmOk nmHead
  rw [Bool.and_eq_true, decide_eq_true_eq, List.all_eq_true]
theorem tail_len (s : List UInt8) (n : Nat) (h : n ≤ 9999) : (tailOf s n).length ≤ 13 ∧ 2 ≤ (tailOf s n).length := by
  have h1 := dg_len n h
  have h2 := dg_pos n
  unfold tailOf
  rcases behind_cases s with ⟨hb, _⟩ | ⟨p, _, _, hb, _, h3, h4⟩
  · rw [hb]; simp; omega
  · rw [hb]; simp; omega
theorem copy_ok (s : List UInt8) (n : Nat) (hs : nmOk s = true) (hn : n ≤ 9999) : nmOk (copyOf s n) = true := by
  obtain ⟨⟨h1, h24, h2, h3, h4, h5⟩, h6⟩ := (ok_spec s).1 hs
  obtain ⟨t1, t2⟩ := tail_len s n hn
  have hmem : (126 : UInt8) ∈ copyOf s n := by unfold copyOf tailOf; simp
  have hlen : (copyOf s n).length ≤ 24 ∧ 2 ≤ (copyOf s n).length := by
    unfold copyOf
    rw [List.length_append, List.length_take]
    omega
  rw [ok_spec]
  refine ⟨⟨by omega, hlen.1, fun e => ?_, fun e => ?_, ?_, ?_⟩, ?_⟩
  · rw [e] at hmem; exact absurd hmem (by decide)
  · rw [e] at hmem; exact absurd hmem (by decide)
  · unfold copyOf
    intro e
    rw [List.head?_append] at e
    cases hh : ((s.take (s.length - (behindOf s).length)).take (24 - (tailOf s n).length)).head? with
    | none => rw [hh] at e; exact absurd e (by unfold tailOf; simp)
    | some x =>
      rw [hh] at e
      simp only [Option.some_or, Option.some.injEq] at e
      subst e
      apply h4
      rw [List.take_take, List.head?_take] at hh
      split at hh
      · cases hh
      · exact hh
  · unfold copyOf tailOf
    rcases behind_cases s with ⟨hb, _⟩ | ⟨p, hp, hsp, hb, _, h7, _⟩
    · rw [hb, List.append_nil, List.getLast?_append, List.getLast?_cons]
      intro e
      simp only [Option.some_or, Option.some.injEq] at e
      have hd : ∀ (x : UInt8) (l : List UInt8), (l.getLast?).getD x = 32 → (∀ b ∈ l, 48 ≤ b.toNat ∧ b.toNat ≤ 57) → 1 ≤ l.length → False := by
        intro x l hl hall hlen
        cases hg : l.getLast? with
        | none => rw [List.getLast?_eq_none_iff] at hg; subst hg; simp at hlen
        | some y =>
          rw [hg] at hl
          simp only [Option.getD_some] at hl
          have := hall y (List.mem_of_getLast? hg)
          subst hl
          exact absurd this.1 (by decide)
      exact hd _ _ e (dg_digits n) (dg_pos n)
    · rw [hb, ← List.append_assoc, List.getLast?_append]
      rw [hsp, hb, List.getLast?_append] at h5
      intro e
      apply h5
      cases hg : (46 :: ext s).getLast? with
      | none => simp at hg
      | some y => rw [hg] at e; exact e
  · intro b hb
    unfold copyOf tailOf at hb
    have hsub : ∀ x ∈ behindOf s, okByte x = true := by
      rcases behind_cases s with ⟨hb, _⟩ | ⟨p, _, hsp, _⟩
      · rw [hb]; simp
      · intro x hx; exact h6 x (by rw [hsp]; exact List.mem_append_right _ hx)
    rcases List.mem_append.1 hb with hb | hb
    · exact h6 b (List.mem_of_mem_take (List.mem_of_mem_take hb))
    · rcases List.mem_append.1 hb with hb | hb
      · rcases List.mem_cons.1 hb with rfl | hb
        · decide
        · have := dg_digits n b hb
          unfold okByte
          exact decide_eq_true (by omega)
      · exact hsub b hb
theorem copy_ext (s : List UInt8) (n : Nat) (h : 1 ≤ (ext s).length ∧ (ext s).length ≤ 7) : ext (copyOf s n) = ext s := by
  rcases behind_cases s with ⟨_, hb⟩ | ⟨p, _, _, hb, hn, _, _⟩
  · exact absurd h hb
  · unfold copyOf tailOf
    rw [hb, ← List.append_assoc]
    exact ext_found _ _ (by simp) hn
end Arb
end
