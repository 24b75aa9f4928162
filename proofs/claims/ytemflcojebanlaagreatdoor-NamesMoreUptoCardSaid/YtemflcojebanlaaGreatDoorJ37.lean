/- Texts joined: NmY, TreeO, NmRow, NmMoreFact. -/
import Derived.Test.YtemflcojebanlaaGreatDoorJ35
import Derived.Test.YtemflcojebanlaaGreatDoorJ36
import Derived.Test.YtemflcojebanlaaGreatDoorJ00
import Derived.Test.YtemflcojebanlaaGreatDoorRows
import Derived.OpenShut
import Derived.Deep.Slices
import Derived.WideShapes
import Derived.Test.YtemflcojebanlaaGreatDoorCards
import Derived.Test.YtemflcojebanlaaGreatDoorTie
import Derived.ProofKit
import Derived.Deep.DeepHandedRow
import Derived.Lib.LaidTab
import Derived.Lib.LaidU8
import Derived.LaidHandle
import Derived.LaidLaws
/- The contracts of the statements NamesChecks and NamesWhole: they return true, whatever the program, or the type (of weight at most 1048576). -/
namespace Go.Proofs.YtemflcojebanlaaGreatDoor.NmC
open Go Go.RowKit Go.Lib Go.Sort Go.Maps LexP TreeP LexC TreeC NmP ErrAs

/-- what is asked of the library's variables -/
structure NLists (w : World) : Prop where
 tabs : Tabs w
 err : ErrVar w
/-- the program that has this type alone -/
def oneT (t : Ty) : TreeP.Fn := ⟨⟨#[]⟩, .slice none 0 0, [], .slice none 0 0, [], t, .slice none 0 0, [], .slice none 0 0, [], .mk 0 0 ⟨#[]⟩ false (.slice none 0 0) []⟩
theorem lies_nil {w : World} {size : Nat} : Lies w size (.slice none 0 0) [] := ⟨none, 0, rfl, by simp, fun h => absurd rfl h⟩
end Go.Proofs.YtemflcojebanlaaGreatDoor.NmC
/- An argument read as data: the tree of types, expressions, statements, functions that it is, how it lies in memory, and that it weighs at most the data's bulk. -/
namespace Go.Proofs.YtemflcojebanlaaGreatDoor.TreeO
open Go Go.RowKit Go.ChangeShapes Go.WideShapes LexP TreeP

theorem list_of {α : Type} {p : Nat → α → Prop} : ∀ n : Nat, (∀ i, i < n → ∃ x, p i x) → ∃ l : List α, l.length = n ∧ ∀ (i : Nat) (a : α), l[i]? = some a → p i a
 | 0, _ => ⟨[], rfl, fun i a h => by simp at h⟩
 | n + 1, h => by
  obtain ⟨l, hl, hp⟩ := list_of n fun i hi => h i (by omega)
  obtain ⟨x, hx⟩ := h n (by omega)
  refine ⟨l ++ [x], by simp [hl], fun i a hi => ?_⟩
  by_cases h1 : i < l.length
  ·rw [List.getElem?_append_left h1] at hi
   exact hp i a hi
  ·rw [List.getElem?_append_right (by omega)] at hi
   have hlt : i - l.length < [x].length := (List.getElem?_eq_some_iff.1 hi).1
   have e : i = n := by simp at hlt; omega
   subst e
   simp [hl] at hi
   subst hi
   exact hx
theorem sum_bulk {H α : Type} (wt : α → Nat) : ∀ (l : List α) (es : List (DataW H)), l.length = es.length → (∀ (i : Nat) (a : α) (y : DataW H), l[i]? = some a → es[i]? = some y → wt a ≤ Rows.uptoBulk y) → (l.map wt).sum ≤ Rows.uptoBulkAll es
 | [], [], _, _ => by simp
 | a :: l, y :: es, hl, h => by
  have h0 := h 0 a y rfl rfl
  have := sum_bulk wt l es (by simpa using hl) fun i b z hb hz => h (i + 1) b z (by simpa using hb) (by simpa using hz)
  simp only [List.map_cons, List.sum_cons, Rows.uptoBulkAll]
  omega
 | [], y :: es, hl, _ => by simp at hl
 | a :: l, [], hl, _ => by simp at hl

section
variable {H : Type} {enc : TypeId × Value → H} {w : World} {base : Nat} {sp : Nat → Bool} {hd : Bool}

theorem open_rows {α : Type} {P : Program} (cells : α → List Value) (Q : α → Prop) (wt : α → Nat) {t e : TypeId} {size n : Nat} {cs : List Value} {x : DataW H × List MemPlace}
  (ht : P.underlying t = some (.slice e)) (hc : P.cellsOf e = size) (hs : 0 < size)
  (ih : ∀ m, m < n → ∀ cs' y, DataW.trod enc P w base sp hd m e cs' = some y → ∃ a, cs' = cells a ∧ Q a ∧ wt a ≤ Rows.uptoBulk y.1)
  (h : DataW.trod enc P w base sp hd n t cs = some x) :
  ∃ (v : Value) (l : List α), cs = [v] ∧ Lies w size v (l.map cells) ∧ (∀ a ∈ l, Q a) ∧ 1 + (l.map wt).sum ≤ Rows.uptoBulk x.1 := by
 rcases DataW.trod_slice ht h with ⟨rfl, rfl⟩ | ⟨a, len, cap, elems, rest, m, rfl, rfl, rfl, hb, hl, hm, hlen, hel, _, _⟩
 ·exact ⟨_, [], rfl, ⟨none, 0, rfl, by simp, fun h => absurd rfl h⟩, by simp, by simp [Rows.uptoBulk]⟩
 ·have key : ∀ i, i < len → ∃ A : α, ∃ y, elems[i]? = some y ∧ w.cells? base (a.add (i * size)) size = some (cells A) ∧ Q A ∧ wt A ≤ Rows.uptoBulk y.1 := by
   intro i hi
   have h1 := hel i hi
   rw [hc, List.getElem?_eq_getElem (by omega)] at h1
   obtain ⟨cs', h2, h3⟩ := Option.bind_eq_some_iff.1 h1
   obtain ⟨A, rfl, hq, hw⟩ := ih m (by omega) cs' _ h3
   exact ⟨A, _, List.getElem?_eq_getElem _, h2, hq, hw⟩
  obtain ⟨l, hll, hp⟩ := list_of len key
  refine ⟨_, l, rfl, ⟨some a, cap, by simp [hll], by simp [hll]; omega, fun hne => ?_⟩, fun A hA => ?_, ?_⟩
  ·obtain ⟨b, off, spot⟩ := a
   have hpos : 0 < l.length := by
    cases l with
    | nil => exact absurd rfl hne
    | cons _ _ => simp
   obtain ⟨A0, hA0⟩ : ∃ A0, l[0]? = some A0 := ⟨_, List.getElem?_eq_getElem hpos⟩
   obtain ⟨y, _, h2, _, _⟩ := hp 0 A0 hA0
   obtain ⟨_, hlen0, hcell⟩ := World.cells?_some h2
   have g0 := hcell 0 hs
   obtain ⟨c0, hc0⟩ : ∃ c0, (cells A0)[0]? = some c0 := ⟨_, List.getElem?_eq_getElem (by omega)⟩
   rw [hc0] at g0
   have hspot : spot = none := by simpa [Addr.add] using World.cell?_spot g0
   subst hspot
   refine ⟨b, off, rfl, fun i c hi j u hj => ?_⟩
   rw [List.getElem?_map] at hi
   obtain ⟨A, hA, rfl⟩ := Option.map_eq_some_iff.1 hi
   obtain ⟨y, _, h2, _, _⟩ := hp i A hA
   obtain ⟨_, hlenA, hcell⟩ := World.cells?_some h2
   have hjlt : j < size := by rw [← hlenA]; exact (List.getElem?_eq_some_iff.1 hj).1
   have := hcell j hjlt
   rw [WideShapes.add_plain, WideShapes.add_plain, hj] at this
   exact this
  ·obtain ⟨i, hi, rfl⟩ := List.getElem_of_mem hA
   obtain ⟨y, _, _, hq, _⟩ := hp i _ (List.getElem?_eq_getElem hi)
   exact hq
  ·have := sum_bulk (H := H) wt l (elems.map (·.1)) (by simp [hll, hlen]) fun i A y hA hy => by
    obtain ⟨z, hz, _, _, hwz⟩ := hp i A hA
    rw [List.getElem?_map, hz] at hy
    simp at hy
    subst hy
    exact hwz
   simp only [Rows.uptoBulk]
   omega

theorem wTs_sum : ∀ l : List Ty, wTs l = (l.map wT).sum
 | [] => by simp [wTs]
 | t :: ts => by simp [wTs, wTs_sum ts]
theorem wEs_sum : ∀ l : List Ex, wEs l = (l.map wE).sum
 | [] => by simp [wEs]
 | t :: ts => by simp [wEs, wEs_sum ts]
theorem wSs_sum : ∀ l : List St, wSs l = (l.map wS).sum
 | [] => by simp [wSs]
 | t :: ts => by simp [wSs, wSs_sum ts]
theorem wPas_sum : ∀ l : List Pa, wPas l = (l.map wPa).sum
 | [] => by simp [wPas]
 | t :: ts => by simp [wPas, wPas_sum ts]
theorem wNs_sum : ∀ l : List ByteArray, wNs l = (l.map fun s => 1 + s.size).sum
 | [] => by simp [wNs]
 | t :: ts => by simp [wNs, wNs_sum ts]
theorem wFs_sum : ∀ l : List TreeP.Fn, wFs l = (l.map wF).sum
 | [] => by simp [wFs]
 | t :: ts => by simp [wFs, wFs_sum ts]
theorem size_toList (s : ByteArray) : s.data.toList.length = s.size := by rw [Array.length_toList]; rfl

theorem field {P : Program} {m : Nat} {fs : Array Field} {cs : List Value} {xs : List (DataW H × List MemPlace)} (hf : ∀ (i : Nat) (f : Field), fs[i]? = some f → DataW.trod enc P w base sp hd m f.type ((cs.drop f.offset).take (P.cellsOf f.type)) = xs[i]?)
  (i t o n : Nat) (h : (fs[i]?).map (fun f => (f.type, f.offset)) = some (t, o)) (hc : P.cellsOf t = n) : DataW.trod enc P w base sp hd m t ((cs.drop o).take n) = xs[i]? := by
 obtain ⟨f, h1, h2⟩ := Option.map_eq_some_iff.1 h
 have := hf i f h1
 simp only [Prod.mk.injEq] at h2
 obtain ⟨rfl, rfl⟩ := h2
 rw [hc] at this
 exact this
theorem c_int : Tryz.prog.cellsOf 3 = 1 := by kernel_rfl
theorem c_int64 : Tryz.prog.cellsOf 2 = 1 := by kernel_rfl
theorem c_string : Tryz.prog.cellsOf 9 = 1 := by kernel_rfl
theorem c_bool : Tryz.prog.cellsOf 4 = 1 := by kernel_rfl
theorem c_type : Tryz.prog.cellsOf 34 = 4 := by kernel_rfl
theorem c_expr : Tryz.prog.cellsOf 40 = 5 := by kernel_rfl
theorem c_stmt : Tryz.prog.cellsOf 68 = 14 := by kernel_rfl
theorem c_param : Tryz.prog.cellsOf 52 = 5 := by kernel_rfl
theorem c_fn : Tryz.prog.cellsOf 42 = 14 := by kernel_rfl
theorem c_types : Tryz.prog.cellsOf 32 = 1 := by kernel_rfl
theorem c_exprs : Tryz.prog.cellsOf 38 = 1 := by kernel_rfl
theorem c_stmts : Tryz.prog.cellsOf 37 = 1 := by kernel_rfl
theorem c_params : Tryz.prog.cellsOf 36 = 1 := by kernel_rfl
theorem c_strings : Tryz.prog.cellsOf 35 = 1 := by kernel_rfl

theorem open_ty (n : Nat) : ∀ (cs : List Value) (x : DataW H × List MemPlace), DataW.trod enc Tryz.prog w base sp hd n 34 cs = some x → ∃ T : Ty, cs = T.cells ∧ T.In w ∧ wT T ≤ Rows.uptoBulk x.1 := by
 induction n using Nat.strongRecOn with
 | ind n ih =>
 intro cs x h
 obtain ⟨xs, m, rfl, rfl, hlen, hxs, hf⟩ := DataW.trod_struct Tryz.underlying34 h
 rw [c_type] at hlen
 have f0 := field hf 0 3 0 1 rfl c_int
 have f1 := field hf 1 9 1 1 rfl c_string
 have f2 := field hf 2 4 2 1 rfl c_bool
 have f3 := field hf 3 32 3 1 rfl c_types
 clear hf h
 obtain ⟨x0, x1, x2, x3, rfl⟩ : ∃ a b c d, xs = [a, b, c, d] := by
  match xs, hxs with
  | [a, b, c, d], _ => exact ⟨a, b, c, d, rfl⟩
 obtain ⟨c0, c1, c2, c3, rfl⟩ : ∃ a b c d, cs = [a, b, c, d] := by
  match cs, hlen with
  | [a, b, c, d], _ => exact ⟨a, b, c, d, rfl⟩
 obtain ⟨k, e0, r0, _⟩ := DataW.trod_int Tryz.underlying3 f0
 obtain ⟨s, e1, r1, _⟩ := DataW.trod_string Tryz.underlying9 f1
 obtain ⟨b, e2, r2⟩ := DataW.trod_bool Tryz.underlying4 f2
 obtain ⟨v, l, e3, hlies, hq, hw⟩ := open_rows Ty.cells (Ty.In w) wT Tryz.underlying32 c_type (by decide) (fun j hj => ih j (by omega)) f3
 simp at e0 e1 e2 e3
 subst e0; subst e1; subst e2; subst e3; subst r0; subst r1; subst r2
 refine ⟨.mk k s b c3 l, rfl, ?_, ?_⟩
 ·rw [Ty.In, Ty.ins_iff]
  exact ⟨hlies, hq⟩
 ·simp only [wT, wTs_sum, List.map_cons, List.map_nil, Rows.uptoBulk, Rows.uptoBulkAll, size_toList]
  omega

theorem open_ex (n : Nat) : ∀ (cs : List Value) (x : DataW H × List MemPlace), DataW.trod enc Tryz.prog w base sp hd n 40 cs = some x → ∃ T : Ex, cs = T.cells ∧ T.In w ∧ wE T ≤ Rows.uptoBulk x.1 := by
 induction n using Nat.strongRecOn with
 | ind n ih =>
 intro cs x h
 obtain ⟨xs, m, rfl, rfl, hlen, hxs, hf⟩ := DataW.trod_struct Tryz.underlying40 h
 rw [c_expr] at hlen
 have f0 := field hf 0 3 0 1 rfl c_int
 have f1 := field hf 1 2 1 1 rfl c_int64
 have f2 := field hf 2 9 2 1 rfl c_string
 have f3 := field hf 3 4 3 1 rfl c_bool
 have f4 := field hf 4 38 4 1 rfl c_exprs
 clear hf h
 obtain ⟨x0, x1, x2, x3, x4, rfl⟩ : ∃ a b c d e, xs = [a, b, c, d, e] := by
  match xs, hxs with
  | [a, b, c, d, e], _ => exact ⟨a, b, c, d, e, rfl⟩
 obtain ⟨c0, c1, c2, c3, c4, rfl⟩ : ∃ a b c d e, cs = [a, b, c, d, e] := by
  match cs, hlen with
  | [a, b, c, d, e], _ => exact ⟨a, b, c, d, e, rfl⟩
 obtain ⟨k, e0, r0, _⟩ := DataW.trod_int Tryz.underlying3 f0
 obtain ⟨z, e1, r1, hz⟩ := DataW.trod_int Tryz.underlying2 f1
 obtain ⟨s, e2, r2, _⟩ := DataW.trod_string Tryz.underlying9 f2
 obtain ⟨b, e3, r3⟩ := DataW.trod_bool Tryz.underlying4 f3
 obtain ⟨v, l, e4, hlies, hq, hw⟩ := open_rows Ex.cells (Ex.In w) wE Tryz.underlying38 c_expr (by decide) (fun j hj => ih j (by omega)) f4
 simp at e0 e1 e2 e3 e4
 subst e0; subst e1; subst e2; subst e3; subst e4; subst r0; subst r1; subst r2; subst r3
 refine ⟨.mk k z s b c4 l, rfl, ?_, ?_⟩
 ·rw [Ex.In, Ex.ins_iff]
  exact ⟨bounds_i64 hz, hlies, hq⟩
 ·simp only [wE, wEs_sum, List.map_cons, List.map_nil, Rows.uptoBulk, Rows.uptoBulkAll, size_toList]
  omega

theorem open_st (n : Nat) : ∀ (cs : List Value) (x : DataW H × List MemPlace), DataW.trod enc Tryz.prog w base sp hd n 68 cs = some x → ∃ T : St, cs = T.cells ∧ T.In w ∧ wS T ≤ Rows.uptoBulk x.1 := by
 induction n using Nat.strongRecOn with
 | ind n ih =>
 intro cs x h
 obtain ⟨xs, m, rfl, rfl, hlen, hxs, hf⟩ := DataW.trod_struct Tryz.underlying68 h
 rw [c_stmt] at hlen
 have f0 := field hf 0 3 0 1 rfl c_int
 have f1 := field hf 1 9 1 1 rfl c_string
 have f2 := field hf 2 40 2 5 rfl c_expr
 have f3 := field hf 3 40 7 5 rfl c_expr
 have f4 := field hf 4 37 12 1 rfl c_stmts
 have f5 := field hf 5 37 13 1 rfl c_stmts
 clear hf h
 obtain ⟨x0, x1, x2, x3, x4, x5, rfl⟩ : ∃ a b c d e f, xs = [a, b, c, d, e, f] := by
  match xs, hxs with
  | [a, b, c, d, e, f], _ => exact ⟨a, b, c, d, e, f, rfl⟩
 obtain ⟨c0, c1, c2, c3, c4, c5, c6, c7, c8, c9, ca, cb, cc, cd, rfl⟩ : ∃ c0 c1 c2 c3 c4 c5 c6 c7 c8 c9 ca cb cc cd, cs = [c0, c1, c2, c3, c4, c5, c6, c7, c8, c9, ca, cb, cc, cd] := by
  match cs, hlen with
  | [c0, c1, c2, c3, c4, c5, c6, c7, c8, c9, ca, cb, cc, cd], _ => exact ⟨c0, c1, c2, c3, c4, c5, c6, c7, c8, c9, ca, cb, cc, cd, rfl⟩
 obtain ⟨k, e0, r0, _⟩ := DataW.trod_int Tryz.underlying3 f0
 obtain ⟨s, e1, r1, _⟩ := DataW.trod_string Tryz.underlying9 f1
 obtain ⟨p, e2, hpin, hpw⟩ := open_ex _ _ _ f2
 obtain ⟨q, e3, hqin, hqw⟩ := open_ex _ _ _ f3
 obtain ⟨tv, tl, e4, hlies4, hq4, hw4⟩ := open_rows St.cells (St.In w) wS Tryz.underlying37 c_stmt (by decide) (fun j hj => ih j (by omega)) f4
 obtain ⟨ev, el, e5, hlies5, hq5, hw5⟩ := open_rows St.cells (St.In w) wS Tryz.underlying37 c_stmt (by decide) (fun j hj => ih j (by omega)) f5
 obtain ⟨pk, pn, ps, pm, pv, pl⟩ := p
 obtain ⟨qk, qn, qs, qm, qv, ql⟩ := q
 simp [Ex.cells] at e0 e1 e2 e3 e4 e5
 obtain ⟨rfl, rfl, rfl, rfl, rfl⟩ := e2
 obtain ⟨rfl, rfl, rfl, rfl, rfl⟩ := e3
 subst e0; subst e1; subst e4; subst e5; subst r0; subst r1
 refine ⟨.mk k s (.mk pk pn ps pm c6 pl) (.mk qk qn qs qm cb ql) cc tl cd el, rfl, ?_, ?_⟩
 ·rw [St.In, St.ins_iff, St.ins_iff]
  exact ⟨hpin, hqin, hlies4, hq4, hlies5, hq5⟩
 ·simp only [wS, wSs_sum, List.map_cons, List.map_nil, Rows.uptoBulk, Rows.uptoBulkAll, size_toList]
  omega

theorem open_pa (n : Nat) (cs : List Value) (x : DataW H × List MemPlace) (h : DataW.trod enc Tryz.prog w base sp hd n 52 cs = some x) : ∃ T : Pa, cs = T.cells ∧ T.In w ∧ wPa T ≤ Rows.uptoBulk x.1 := by
 obtain ⟨xs, m, rfl, rfl, hlen, hxs, hf⟩ := DataW.trod_struct Tryz.underlying52 h
 rw [c_param] at hlen
 have f0 := field hf 0 9 0 1 rfl c_string
 have f1 := field hf 1 34 1 4 rfl c_type
 clear hf h
 obtain ⟨x0, x1, rfl⟩ : ∃ a b, xs = [a, b] := by
  match xs, hxs with
  | [a, b], _ => exact ⟨a, b, rfl⟩
 obtain ⟨c0, c1, c2, c3, c4, rfl⟩ : ∃ a b c d e, cs = [a, b, c, d, e] := by
  match cs, hlen with
  | [a, b, c, d, e], _ => exact ⟨a, b, c, d, e, rfl⟩
 obtain ⟨s, e0, r0, _⟩ := DataW.trod_string Tryz.underlying9 f0
 obtain ⟨p, e1, hpin, hpw⟩ := open_ty _ _ _ f1
 obtain ⟨pk, ps, pm, pv, pl⟩ := p
 simp [Ty.cells] at e0 e1
 obtain ⟨rfl, rfl, rfl, rfl⟩ := e1
 subst e0; subst r0
 refine ⟨⟨s, .mk pk ps pm c4 pl⟩, rfl, hpin, ?_⟩
 simp only [wPa, List.map_cons, List.map_nil, Rows.uptoBulk, Rows.uptoBulkAll, size_toList]
 omega

theorem open_names {n : Nat} {cs : List Value} {x : DataW H × List MemPlace} (h : DataW.trod enc Tryz.prog w base sp hd n 35 cs = some x) : ∃ (v : Value) (l : List ByteArray), cs = [v] ∧ Lies w 1 v (l.map nmCells) ∧ 1 + wNs l ≤ Rows.uptoBulk x.1 := by
 obtain ⟨v, l, e, hlies, _, hw⟩ := open_rows (α := ByteArray) nmCells (fun _ => True) (fun s => 1 + s.size) Tryz.underlying35 c_string (by decide) (fun j _ cs' y hy => by
  obtain ⟨s, rfl, e, _⟩ := DataW.trod_string Tryz.underlying9 hy
  exact ⟨s, rfl, trivial, by rw [e]; simp only [Rows.uptoBulk, size_toList]; omega⟩) h
 exact ⟨v, l, e, hlies, by rw [wNs_sum]; exact hw⟩

theorem open_fn (n : Nat) (cs : List Value) (x : DataW H × List MemPlace) (h : DataW.trod enc Tryz.prog w base sp hd n 42 cs = some x) : ∃ T : TreeP.Fn, cs = T.cells ∧ T.In w ∧ wF T ≤ Rows.uptoBulk x.1 := by
 obtain ⟨xs, m, rfl, rfl, hlen, hxs, hf⟩ := DataW.trod_struct Tryz.underlying42 h
 rw [c_fn] at hlen
 have f0 := field hf 0 9 0 1 rfl c_string
 have f1 := field hf 1 35 1 1 rfl c_strings
 have f2 := field hf 2 36 2 1 rfl c_params
 have f3 := field hf 3 34 3 4 rfl c_type
 have f4 := field hf 4 35 7 1 rfl c_strings
 have f5 := field hf 5 37 8 1 rfl c_stmts
 have f6 := field hf 6 40 9 5 rfl c_expr
 clear hf h
 obtain ⟨x0, x1, x2, x3, x4, x5, x6, rfl⟩ : ∃ a b c d e f g, xs = [a, b, c, d, e, f, g] := by
  match xs, hxs with
  | [a, b, c, d, e, f, g], _ => exact ⟨a, b, c, d, e, f, g, rfl⟩
 obtain ⟨c0, c1, c2, c3, c4, c5, c6, c7, c8, c9, ca, cb, cc, cd, rfl⟩ : ∃ c0 c1 c2 c3 c4 c5 c6 c7 c8 c9 ca cb cc cd, cs = [c0, c1, c2, c3, c4, c5, c6, c7, c8, c9, ca, cb, cc, cd] := by
  match cs, hlen with
  | [c0, c1, c2, c3, c4, c5, c6, c7, c8, c9, ca, cb, cc, cd], _ => exact ⟨c0, c1, c2, c3, c4, c5, c6, c7, c8, c9, ca, cb, cc, cd, rfl⟩
 obtain ⟨s, e0, r0, _⟩ := DataW.trod_string Tryz.underlying9 f0
 obtain ⟨v1, l1, e1, hl1, hw1⟩ := open_names f1
 obtain ⟨v2, l2, e2, hl2, hq2, hw2⟩ := open_rows Pa.cells (Pa.In w) wPa Tryz.underlying36 c_param (by decide) (fun j _ => open_pa j) f2
 obtain ⟨p, e3, hpin, hpw⟩ := open_ty _ _ _ f3
 obtain ⟨v4, l4, e4, hl4, hw4⟩ := open_names f4
 obtain ⟨v5, l5, e5, hl5, hq5, hw5⟩ := open_rows St.cells (St.In w) wS Tryz.underlying37 c_stmt (by decide) (fun j _ => open_st j) f5
 obtain ⟨q, e6, hqin, hqw⟩ := open_ex _ _ _ f6
 obtain ⟨pk, ps, pm, pv, pl⟩ := p
 obtain ⟨qk, qn, qs, qm, qv, ql⟩ := q
 simp [Ex.cells, Ty.cells] at e0 e1 e2 e3 e4 e5 e6
 obtain ⟨rfl, rfl, rfl, rfl⟩ := e3
 obtain ⟨rfl, rfl, rfl, rfl, rfl⟩ := e6
 subst e0; subst e1; subst e2; subst e4; subst e5; subst r0
 refine ⟨⟨s, c1, l1, c2, l2, .mk pk ps pm c6 pl, c7, l4, c8, l5, .mk qk qn qs qm cd ql⟩, rfl, ⟨hl1, ⟨hl2, hq2⟩, hpin, hl4, ⟨hl5, (St.ins_iff _ _).2 hq5⟩, hqin⟩, ?_⟩
 simp only [wF, wSs_sum, wPas_sum, List.map_cons, List.map_nil, Rows.uptoBulk, Rows.uptoBulkAll, size_toList]
 omega

set_option maxRecDepth 100000 in
theorem prog_nil {v : Value} {d : DataW H} {ps : List MemPlace} (h : DataW.Trod enc Tryz.prog w base sp hd 22 v d ps) : ∀ m c, v = .slice none m c → m = 0 ∧ c = 0 := by
 rintro m c rfl
 obtain ⟨n, hn⟩ := h
 rcases DataW.trod_slice Tryz.underlying22 hn with ⟨h1, _⟩ | ⟨a, len, cap, elems, rest, m, _, h1, _⟩
 ·simp [Value.cells] at h1
  exact h1
 ·simp [Value.cells] at h1
set_option maxRecDepth 100000 in
theorem open_prog {r : Reach} {b0 : Nat} {v : Value} {d : DataW H} {ps : List MemPlace} (hval : Value.okWide Tryz.prog w r b0 22 v) (h : DataW.Trod enc Tryz.prog w base sp hd 22 v d ps) :
  ∃ p, ProgIn w v p ∧ 1 + wFs p ≤ Rows.uptoBulk d := by
 obtain ⟨a, len, cap, rfl⟩ := okWide_slice Tryz.underlying22 hval
 obtain ⟨n, hn⟩ := h
 obtain ⟨u, l, e, hlies, hq, hw⟩ := open_rows Fn.cells (Fn.In w) wF Tryz.underlying22 c_fn (by decide) (fun j _ => open_fn j) hn
 simp [Value.cells] at e
 subst e
 exact ⟨l, ⟨hlies, hq⟩, by rw [wFs_sum]; exact hw⟩
end
end Go.Proofs.YtemflcojebanlaaGreatDoor.TreeO
/- What the rows' list of library variables gives, and a world that meets it (the witness). -/
namespace Go.Proofs.YtemflcojebanlaaGreatDoor.NmR
open Go Go.RowKit Go.Lib LexP ErrAs LexC NmC

theorem laidOut : laidOutB Tryz.prog = true := by kernel_rfl
theorem own : ownKnob Tryz.prog.godebug = none := by kernel_rfl
theorem gEt : Tryz.prog.globalNamed "errors.errorType" = some 0 := by kernel_rfl
theorem rtNum : (Tryz.prog.cutTypes.find? (·.1 == "internal/reflectlite.rtype")).map (·.2) = some 145 := by kernel_rfl
theorem oneRow : ((List.range 247).filter fun t => Tryz.prog.rowNamed t [101, 114, 114, 111, 114]) = [29] := by kernel_rfl
theorem typesSize : Tryz.prog.types.size = 247 := by kernel_rfl
theorem firstIs : Go.Pinned.utf8First = Lib.firstData := by kernel_rfl
theorem acceptIs : (Rows.laid_unicode_utf8_acceptRanges : DataW Unit) = Lib.acceptData := by kernel_rfl
theorem u8 : Go.Proofs.U8Extra Tryz.prog Tryz.lays260_ren := { n3 := by kernel_rfl, n4 := by kernel_rfl, y3 := by kernel_rfl, y4 := by kernel_rfl, c5 := by kernel_rfl, c119 := by kernel_rfl, c138 := by kernel_rfl }

/-- the list, as the three rows have it -/
def theLaid : List (String × DataW Unit) := [("unicode/utf8.acceptRanges", Rows.laid_unicode_utf8_acceptRanges), ("errors.errorType", Rows.laid_errors_errorType), ("unicode/utf8.first", Rows.laid_unicode_utf8_first)]
theorem lists_of {W : World} (h : laidMetH Tryz.prog theLaid W) : NLists W := by
 have h' : laidMet Tryz.prog [("unicode/utf8.acceptRanges", Rows.laid_unicode_utf8_acceptRanges), ("unicode/utf8.first", Rows.laid_unicode_utf8_first)] W ∧ handlesMet Tryz.prog [("errors.errorType", Rows.laid_errors_errorType)] W := h
 constructor
 ·have r1 := laidMet.reads h'.1 (n := "unicode/utf8.first") (d := Rows.laid_unicode_utf8_first) (by simp)
  have r2 := laidMet.reads h'.1 (n := "unicode/utf8.acceptRanges") (d := Rows.laid_unicode_utf8_acceptRanges) (by simp)
  rw [show Rows.laid_unicode_utf8_first = Lib.firstData from firstIs] at r1
  rw [acceptIs] at r2
  exact Go.Proofs.utf8Tabs_of_reads Tryz.lays260 u8 r1 r2
 ·obtain ⟨name, u, ty, e1, e2, e3, e4, e5⟩ := h'.2 _ (List.mem_singleton.2 rfl)
  have en : name = [101, 114, 114, 111, 114] := (Option.some.inj e1).symm
  subst en
  obtain rfl := Option.some.inj (rtNum.symm.trans e2)
  have hm : ty ∈ (List.range 247).filter fun t => Tryz.prog.rowNamed t [101, 114, 114, 111, 114] := List.mem_filter.2 ⟨List.mem_range.2 (by rw [← typesSize]; exact e3), e4⟩
  rw [oneRow] at hm
  obtain rfl := List.mem_singleton.1 hm
  have hh : typeHandle Tryz.prog 29 = .pointer (some ⟨4, 29, none⟩) := by kernel_rfl
  rw [hh] at e5
  have := World.var?_cell gEt e5 0
  simpa [ErrVar] using this

/-- A world for the witness: the settled one, with the three variables laid. -/
noncomputable def laidWorld (os : Os) : World :=
 let w0 := World.holding Tryz.prog os ⟨#[], #[], []⟩
 { w0 with heap := ((w0.heap.modify 0 fun
   | .cells _ t frozen => .cells #[.iface 145 (.agg #[.pointer (some ⟨4, 29, none⟩)])] t frozen
   | o => o).modify 1 fun
   | .cells _ t frozen => .cells ((Array.range 256).map fun c => Value.int .u8 (Lib.firstT c)) t frozen
   | o => o).modify 2 fun
   | .cells _ t frozen => .cells ((Array.range 32).map fun c => Value.int .u8 (if c % 2 = 0 then Lib.accLo (c / 2) else Lib.accHi (c / 2))) t frozen
   | o => o }
theorem laid_met (os : Os) (args : Array Value) : laidMetH Tryz.prog theLaid ((laidWorld os).forCall (fun _ _ => 0) ⟨#[], args, []⟩).memory :=
 laidMetH_of_parts (laidMet_of_run' 8 (by kernel_rfl) (by kernel_rfl)) (by kernel_rfl)
end Go.Proofs.YtemflcojebanlaaGreatDoor.NmR
/- The closed facts of the row of namesMore, one by one, and all of them. -/
namespace Go.Proofs.YtemflcojebanlaaGreatDoor.namesMore
open Go.ChangeShapes Go.WideShapes Go.ChangeAt Go.RowKit
set_option maxRecDepth 100000 in
theorem fact0 : (Rows.namesMoreUptoRow.wf (OpenSpec.ofChange (Rows.OpenSpec.upto Rows.namesMoreSpec).bare)) = true := by kernel_rfl
set_option maxRecDepth 100000 in
theorem fact1 : (laidOutB Tryz.pinned.checked.prog) = true := by kernel_rfl
set_option maxRecDepth 100000 in
theorem fact2 : (mapsRowed Tryz.pinned.checked.prog) = true := by kernel_rfl
set_option maxRecDepth 100000 in
theorem fact3 : (Tryz.f5.params.all (Tryz.pinned.checked.prog.readableRec ·)) = true := by kernel_rfl
set_option maxRecDepth 100000 in
theorem fact4 : (namedTie Tryz.pinned.checked.prog Rows.namesMoreUptoRow.named (Rows.OpenSpec.upto Rows.namesMoreSpec).bare.vars) = true := by kernel_rfl
set_option maxRecDepth 100000 in
theorem fact5 : ((Rows.namesMoreUptoRow.stops == [])) = true := by kernel_rfl
set_option maxRecDepth 100000 in
theorem fact6 : ((Tryz.pinned.checked.prog.stops == [])) = true := by kernel_rfl
set_option maxRecDepth 100000 in
theorem fact7 : ((Rows.namesMoreUptoRow.knobs == [])) = true := by kernel_rfl
set_option maxRecDepth 100000 in
theorem fact8 : ((Tryz.pinned.checked.prog.stopKnobs == [])) = true := by kernel_rfl
set_option maxRecDepth 100000 in
theorem fact9 : ((Rows.namesMoreUptoRow.inPlace == Tryz.pinned.checked.prog.inPlace 5)) = true := by kernel_rfl
set_option maxRecDepth 100000 in
theorem fact10 : ((Rows.namesMoreUptoRow.unfollowed == Tryz.pinned.checked.prog.unfollowed 5)) = true := by kernel_rfl
set_option maxRecDepth 100000 in
theorem fact11 : ((Rows.namesMoreUptoRow.recurses == Tryz.pinned.checked.prog.recurses 5)) = true := by kernel_rfl
set_option maxRecDepth 100000 in
theorem fact12 : ((Rows.namesMoreUptoRow.named == Tryz.pinned.checked.prog.varsNamed 5)) = true := by kernel_rfl
set_option maxRecDepth 100000 in
theorem fact13 : ((Rows.namesMoreUptoRow.maps == (Tryz.f5.params.toList ++ (Rows.OpenSpec.upto Rows.namesMoreSpec).bare.plain.varTypes Tryz.pinned.checked.prog).any (Tryz.pinned.checked.prog.mapsRec ·))) = true := by kernel_rfl
set_option maxRecDepth 100000 in
theorem fact14 : ((Rows.namesMoreUptoRow.ifaces == (Tryz.f5.params.toList ++ (Rows.OpenSpec.upto Rows.namesMoreSpec).bare.plain.varTypes Tryz.pinned.checked.prog).any (Tryz.pinned.checked.prog.ifacesRec ·))) = true := by kernel_rfl
set_option maxRecDepth 100000 in
theorem fact15 : ((Rows.namesMoreUptoRow.mapsOut == Tryz.pinned.checked.prog.mapsAmong Tryz.f5.resultTypes.toList)) = true := by kernel_rfl
set_option maxRecDepth 100000 in
theorem fact16 : ((Rows.namesMoreUptoRow.loops == (Tryz.f5.params.toList ++ (Rows.OpenSpec.upto Rows.namesMoreSpec).bare.plain.varTypes Tryz.pinned.checked.prog).any (Tryz.pinned.checked.prog.loopsFrom ·))) = true := by kernel_rfl
set_option maxRecDepth 100000 in
theorem fact17 : ((Rows.namesMoreUptoRow.wideKeys == (Tryz.f5.params.toList ++ (Rows.OpenSpec.upto Rows.namesMoreSpec).bare.plain.varTypes Tryz.pinned.checked.prog ++ Tryz.f5.resultTypes.toList).any (Tryz.pinned.checked.prog.wideKeysFrom ·))) = true := by kernel_rfl
set_option maxRecDepth 100000 in
theorem fact18 : ((Rows.OpenSpec.upto Rows.namesMoreSpec).bare.vars.all (Tryz.pinned.checked.prog.varReadable ·)) = true := by kernel_rfl
set_option maxRecDepth 100000 in
theorem fact19 : (Tryz.f5.resultTypes.all (fun t => Tryz.pinned.checked.prog.readableRec t && decide (t < Tryz.pinned.checked.prog.types.size))) = true := by kernel_rfl
set_option maxRecDepth 100000 in
theorem fact20 : ((Rows.namesMoreUptoRow.ifacesOut == Tryz.f5.resultTypes.toList.any (Tryz.pinned.checked.prog.ifacesRec ·))) = true := by kernel_rfl
set_option maxRecDepth 100000 in
theorem fact21 : ((Rows.namesMoreUptoRow.loopsOut == Tryz.f5.resultTypes.toList.any (Tryz.pinned.checked.prog.loopsFrom ·))) = true := by kernel_rfl
set_option maxRecDepth 100000 in
theorem fact22 : ((Rows.namesMoreUptoRow.plainKeys == Tryz.pinned.checked.prog.plainKeys)) = true := by kernel_rfl
set_option maxRecDepth 100000 in
theorem fact23 : (Rows.namesMoreUptoRow.shortTexts.isNone) = true := by kernel_rfl
set_option maxRecDepth 100000 in
theorem fact24 : (Tryz.pinned.checked.prog.stopsHeard) = true := by kernel_rfl
set_option maxRecDepth 100000 in
theorem fact25 : (Tryz.pinned.checked.prog.mayEnter) = true := by kernel_rfl
set_option maxRecDepth 100000 in
theorem fact26 : ((Rows.namesMoreUptoRow.lifted == Tryz.pinned.checked.prog.liftsFinal)) = true := by kernel_rfl
set_option maxRecDepth 100000 in
theorem fact27 : ((Tryz.pinned.checked.prog.make == some Rows.namesMoreUptoRow.make)) = true := by kernel_rfl
set_option maxRecDepth 100000 in
theorem fact28 : ((Rows.namesMoreUptoRow.kinds == (if Rows.namesMoreUptoRow.domain.isEmpty then [] else Tryz.f5.params.toList.map fun t => match Tryz.pinned.checked.prog.underlying t with | some (.int k) => some k | _ => none))) = true := by kernel_rfl
set_option maxRecDepth 100000 in
theorem fact29 : ((Rows.namesMoreUptoRow.pinned == Rows.namesMoreUptoRow.pinnedBy)) = true := by kernel_rfl
set_option maxRecDepth 100000 in
theorem fact30 : ((Rows.namesMoreUptoRow.veiled == (Tryz.f5.params.toList ++ (Rows.OpenSpec.upto Rows.namesMoreSpec).bare.plain.varTypes Tryz.pinned.checked.prog ++ Tryz.f5.resultTypes.toList).any (Tryz.pinned.checked.prog.veiledRec ·))) = true := by kernel_rfl
set_option maxRecDepth 100000 in
theorem fact31 : (Rows.namesMoreUptoRow.veiledFits Tryz.pinned.checked.prog Tryz.f5.params.toList (Tryz.f5.params.toList ++ (Rows.OpenSpec.upto Rows.namesMoreSpec).bare.plain.varTypes Tryz.pinned.checked.prog ++ Tryz.f5.resultTypes.toList)) = true := by kernel_rfl
set_option maxRecDepth 100000 in
theorem closed : joinedFacts Tryz.pinned.checked.prog 5 Tryz.f5 (Rows.OpenSpec.upto Rows.namesMoreSpec).bare Rows.namesMoreUptoRow = true := by
 unfold joinedFacts
 simp only [Bool.and_eq_true]
 refine ⟨?_, fact31⟩
 refine ⟨?_, fact30⟩
 refine ⟨?_, fact29⟩
 refine ⟨?_, fact28⟩
 refine ⟨?_, fact27⟩
 refine ⟨?_, fact26⟩
 refine ⟨?_, fact25⟩
 refine ⟨?_, fact24⟩
 refine ⟨?_, fact23⟩
 refine ⟨?_, fact22⟩
 refine ⟨?_, fact21⟩
 refine ⟨?_, fact20⟩
 refine ⟨?_, fact19⟩
 refine ⟨?_, fact18⟩
 refine ⟨?_, fact17⟩
 refine ⟨?_, fact16⟩
 refine ⟨?_, fact15⟩
 refine ⟨?_, fact14⟩
 refine ⟨?_, fact13⟩
 refine ⟨?_, fact12⟩
 refine ⟨?_, fact11⟩
 refine ⟨?_, fact10⟩
 refine ⟨?_, fact9⟩
 refine ⟨?_, fact8⟩
 refine ⟨?_, fact7⟩
 refine ⟨?_, fact6⟩
 refine ⟨?_, fact5⟩
 refine ⟨?_, fact4⟩
 refine ⟨?_, fact3⟩
 refine ⟨?_, fact2⟩
 refine ⟨?_, fact1⟩
 exact fact0
end Go.Proofs.YtemflcojebanlaaGreatDoor.namesMore
