/- Texts joined: TreeO, LawTB0. -/
import Derived.Test.YtjkdcladjjpmoaaGreatDoorJ00
import Derived.Test.YtjkdcladjjpmoaaGreatDoorRows
import Derived.OpenShut
import Derived.Deep.Slices
import Derived.WideShapes
import Derived.Test.YtjkdcladjjpmoaaGreatDoorJ28
import Derived.Laws.AppendOwn
import Derived.Laws.OwnMore
/- An argument read as data: the tree of types, expressions, statements, functions that it is, how it lies in memory, and that it weighs at most the data's bulk. -/
namespace Go.Proofs.YtjkdcladjjpmoaaGreatDoor.TreeO
open Go Go.RowKit Go.ChangeShapes Go.WideShapes Go.Proofs.YtjkdcladjjpmoaaGreatDoor.LexP Go.Proofs.YtjkdcladjjpmoaaGreatDoor.TreeP

theorem list_of {α : Type} {p : Nat → α → Prop} : ∀ n : Nat, (∀ i, i < n → ∃ x, p i x) → ∃ l : List α, l.length = n ∧ ∀ (i : Nat) (a : α), l[i]? = some a → p i a
  | 0, _ => ⟨[], rfl, fun i a h => by simp at h⟩
  | n + 1, h => by
    obtain ⟨l, hl, hp⟩ := list_of n fun i hi => h i (by omega)
    obtain ⟨x, hx⟩ := h n (by omega)
    refine ⟨l ++ [x], by simp [hl], fun i a hi => ?_⟩
    by_cases h1 : i < l.length
    · rw [List.getElem?_append_left h1] at hi
      exact hp i a hi
    · rw [List.getElem?_append_right (by omega)] at hi
      have hlt : i - l.length < [x].length := (List.getElem?_eq_some_iff.1 hi).1
      have e : i = n := by simp at hlt; omega
      subst e
      simp [hl] at hi
      subst hi
      exact hx
theorem sum_bulk {H α : Type} (wt : α → Nat) : ∀ (l : List α) (es : List (DataW H)), l.length = es.length → (∀ (i : Nat) (a : α) (y : DataW H), l[i]? = some a → es[i]? = some y → wt a ≤ Rows.uptoBulk y) → (l.map wt).sum ≤ Rows.uptoBulkAll es
  | [], [], _, _ => by simp
  | a :: l, y :: es, hl, h => by
    have h0 := h 0 a y rfl rfl
    have := sum_bulk wt l es (by simpa using hl) fun i b z hb hz => h (i + 1) b z (by simpa using hb) (by simpa using hz)
    simp only [List.map_cons, List.sum_cons, Rows.uptoBulkAll]
    omega
  | [], y :: es, hl, _ => by simp at hl
  | a :: l, [], hl, _ => by simp at hl

section
variable {H : Type} {enc : TypeId × Value → H} {w : World} {base : Nat} {sp : Nat → Bool} {hd : Bool}

theorem open_rows {α : Type} {P : Program} (cells : α → List Value) (Q : α → Prop) (wt : α → Nat) {t e : TypeId} {size n : Nat} {cs : List Value} {x : DataW H × List MemPlace}
    (ht : P.underlying t = some (.slice e)) (hc : P.cellsOf e = size) (hs : 0 < size)
    (ih : ∀ m, m < n → ∀ cs' y, DataW.trod enc P w base sp hd m e cs' = some y → ∃ a, cs' = cells a ∧ Q a ∧ wt a ≤ Rows.uptoBulk y.1)
    (h : DataW.trod enc P w base sp hd n t cs = some x) :
    ∃ (v : Value) (l : List α), cs = [v] ∧ Lies w size v (l.map cells) ∧ (∀ a ∈ l, Q a) ∧ 1 + (l.map wt).sum ≤ Rows.uptoBulk x.1 := by
  rcases DataW.trod_slice ht h with ⟨rfl, rfl⟩ | ⟨a, len, cap, elems, rest, m, rfl, rfl, rfl, hb, hl, hm, hlen, hel, _, _⟩
  · exact ⟨_, [], rfl, ⟨none, 0, rfl, by simp, fun h => absurd rfl h⟩, by simp, by simp [Rows.uptoBulk]⟩
  · have key : ∀ i, i < len → ∃ A : α, ∃ y, elems[i]? = some y ∧ w.cells? base (a.add (i * size)) size = some (cells A) ∧ Q A ∧ wt A ≤ Rows.uptoBulk y.1 := by
      intro i hi
      have h1 := hel i hi
      rw [hc, List.getElem?_eq_getElem (by omega)] at h1
      obtain ⟨cs', h2, h3⟩ := Option.bind_eq_some_iff.1 h1
      obtain ⟨A, rfl, hq, hw⟩ := ih m (by omega) cs' _ h3
      exact ⟨A, _, List.getElem?_eq_getElem _, h2, hq, hw⟩
    obtain ⟨l, hll, hp⟩ := list_of len key
    refine ⟨_, l, rfl, ⟨some a, cap, by simp [hll], by simp [hll]; omega, fun hne => ?_⟩, fun A hA => ?_, ?_⟩
    · obtain ⟨b, off, spot⟩ := a
      have hpos : 0 < l.length := by
        cases l with
        | nil => exact absurd rfl hne
        | cons _ _ => simp
      obtain ⟨A0, hA0⟩ : ∃ A0, l[0]? = some A0 := ⟨_, List.getElem?_eq_getElem hpos⟩
      obtain ⟨y, _, h2, _, _⟩ := hp 0 A0 hA0
      obtain ⟨_, hlen0, hcell⟩ := World.cells?_some h2
      have g0 := hcell 0 hs
      obtain ⟨c0, hc0⟩ : ∃ c0, (cells A0)[0]? = some c0 := ⟨_, List.getElem?_eq_getElem (by omega)⟩
      rw [hc0] at g0
      have hspot : spot = none := by simpa [Addr.add] using World.cell?_spot g0
      subst hspot
      refine ⟨b, off, rfl, fun i c hi j u hj => ?_⟩
      rw [List.getElem?_map] at hi
      obtain ⟨A, hA, rfl⟩ := Option.map_eq_some_iff.1 hi
      obtain ⟨y, _, h2, _, _⟩ := hp i A hA
      obtain ⟨_, hlenA, hcell⟩ := World.cells?_some h2
      have hjlt : j < size := by rw [← hlenA]; exact (List.getElem?_eq_some_iff.1 hj).1
      have := hcell j hjlt
      rw [WideShapes.add_plain, WideShapes.add_plain, hj] at this
      exact this
    · obtain ⟨i, hi, rfl⟩ := List.getElem_of_mem hA
      obtain ⟨y, _, _, hq, _⟩ := hp i _ (List.getElem?_eq_getElem hi)
      exact hq
    · have := sum_bulk (H := H) wt l (elems.map (·.1)) (by simp [hll, hlen]) fun i A y hA hy => by
        obtain ⟨z, hz, _, _, hwz⟩ := hp i A hA
        rw [List.getElem?_map, hz] at hy
        simp at hy
        subst hy
        exact hwz
      simp only [Rows.uptoBulk]
      omega

theorem wTs_sum : ∀ l : List Ty, wTs l = (l.map wT).sum
  | [] => by simp [wTs]
  | t :: ts => by simp [wTs, wTs_sum ts]
theorem wEs_sum : ∀ l : List Ex, wEs l = (l.map wE).sum
  | [] => by simp [wEs]
  | t :: ts => by simp [wEs, wEs_sum ts]
theorem wSs_sum : ∀ l : List St, wSs l = (l.map wS).sum
  | [] => by simp [wSs]
  | t :: ts => by simp [wSs, wSs_sum ts]
theorem wPas_sum : ∀ l : List Pa, wPas l = (l.map wPa).sum
  | [] => by simp [wPas]
  | t :: ts => by simp [wPas, wPas_sum ts]
theorem wNs_sum : ∀ l : List ByteArray, wNs l = (l.map fun s => 1 + s.size).sum
  | [] => by simp [wNs]
  | t :: ts => by simp [wNs, wNs_sum ts]
theorem wFs_sum : ∀ l : List TreeP.Fn, wFs l = (l.map wF).sum
  | [] => by simp [wFs]
  | t :: ts => by simp [wFs, wFs_sum ts]
theorem size_toList (s : ByteArray) : s.data.toList.length = s.size := by rw [Array.length_toList]; rfl

theorem field {P : Program} {m : Nat} {fs : Array Field} {cs : List Value} {xs : List (DataW H × List MemPlace)} (hf : ∀ (i : Nat) (f : Field), fs[i]? = some f → DataW.trod enc P w base sp hd m f.type ((cs.drop f.offset).take (P.cellsOf f.type)) = xs[i]?)
    (i t o n : Nat) (h : (fs[i]?).map (fun f => (f.type, f.offset)) = some (t, o)) (hc : P.cellsOf t = n) : DataW.trod enc P w base sp hd m t ((cs.drop o).take n) = xs[i]? := by
  obtain ⟨f, h1, h2⟩ := Option.map_eq_some_iff.1 h
  have := hf i f h1
  simp only [Prod.mk.injEq] at h2
  obtain ⟨rfl, rfl⟩ := h2
  rw [hc] at this
  exact this
theorem c_int : Tryz.prog.cellsOf 3 = 1 := by kernel_rfl
theorem c_int64 : Tryz.prog.cellsOf 2 = 1 := by kernel_rfl
theorem c_string : Tryz.prog.cellsOf 9 = 1 := by kernel_rfl
theorem c_bool : Tryz.prog.cellsOf 4 = 1 := by kernel_rfl
theorem c_type : Tryz.prog.cellsOf 45 = 4 := by kernel_rfl
theorem c_expr : Tryz.prog.cellsOf 51 = 5 := by kernel_rfl
theorem c_stmt : Tryz.prog.cellsOf 111 = 14 := by kernel_rfl
theorem c_param : Tryz.prog.cellsOf 59 = 5 := by kernel_rfl
theorem c_fn : Tryz.prog.cellsOf 53 = 14 := by kernel_rfl
theorem c_types : Tryz.prog.cellsOf 43 = 1 := by kernel_rfl
theorem c_exprs : Tryz.prog.cellsOf 49 = 1 := by kernel_rfl
theorem c_stmts : Tryz.prog.cellsOf 48 = 1 := by kernel_rfl
theorem c_params : Tryz.prog.cellsOf 47 = 1 := by kernel_rfl
theorem c_strings : Tryz.prog.cellsOf 46 = 1 := by kernel_rfl

theorem open_ty (n : Nat) : ∀ (cs : List Value) (x : DataW H × List MemPlace), DataW.trod enc Tryz.prog w base sp hd n 45 cs = some x → ∃ T : Ty, cs = T.cells ∧ T.In w ∧ wT T ≤ Rows.uptoBulk x.1 := by
  induction n using Nat.strongRecOn with
  | ind n ih =>
  intro cs x h
  obtain ⟨xs, m, rfl, rfl, hlen, hxs, hf⟩ := DataW.trod_struct Tryz.underlying45 h
  rw [c_type] at hlen
  have f0 := field hf 0 3 0 1 rfl c_int
  have f1 := field hf 1 9 1 1 rfl c_string
  have f2 := field hf 2 4 2 1 rfl c_bool
  have f3 := field hf 3 43 3 1 rfl c_types
  clear hf h
  obtain ⟨x0, x1, x2, x3, rfl⟩ : ∃ a b c d, xs = [a, b, c, d] := by
    match xs, hxs with
    | [a, b, c, d], _ => exact ⟨a, b, c, d, rfl⟩
  obtain ⟨c0, c1, c2, c3, rfl⟩ : ∃ a b c d, cs = [a, b, c, d] := by
    match cs, hlen with
    | [a, b, c, d], _ => exact ⟨a, b, c, d, rfl⟩
  obtain ⟨k, e0, r0, _⟩ := DataW.trod_int Tryz.underlying3 f0
  obtain ⟨s, e1, r1, _⟩ := DataW.trod_string Tryz.underlying9 f1
  obtain ⟨b, e2, r2⟩ := DataW.trod_bool Tryz.underlying4 f2
  obtain ⟨v, l, e3, hlies, hq, hw⟩ := open_rows Ty.cells (Ty.In w) wT Tryz.underlying43 c_type (by decide) (fun j hj => ih j (by omega)) f3
  simp at e0 e1 e2 e3
  subst e0; subst e1; subst e2; subst e3; subst r0; subst r1; subst r2
  refine ⟨.mk k s b c3 l, rfl, ?_, ?_⟩
  · rw [Ty.In, Ty.ins_iff]
    exact ⟨hlies, hq⟩
  · simp only [wT, wTs_sum, List.map_cons, List.map_nil, Rows.uptoBulk, Rows.uptoBulkAll, size_toList]
    omega

theorem open_ex (n : Nat) : ∀ (cs : List Value) (x : DataW H × List MemPlace), DataW.trod enc Tryz.prog w base sp hd n 51 cs = some x → ∃ T : Ex, cs = T.cells ∧ T.In w ∧ wE T ≤ Rows.uptoBulk x.1 := by
  induction n using Nat.strongRecOn with
  | ind n ih =>
  intro cs x h
  obtain ⟨xs, m, rfl, rfl, hlen, hxs, hf⟩ := DataW.trod_struct Tryz.underlying51 h
  rw [c_expr] at hlen
  have f0 := field hf 0 3 0 1 rfl c_int
  have f1 := field hf 1 2 1 1 rfl c_int64
  have f2 := field hf 2 9 2 1 rfl c_string
  have f3 := field hf 3 4 3 1 rfl c_bool
  have f4 := field hf 4 49 4 1 rfl c_exprs
  clear hf h
  obtain ⟨x0, x1, x2, x3, x4, rfl⟩ : ∃ a b c d e, xs = [a, b, c, d, e] := by
    match xs, hxs with
    | [a, b, c, d, e], _ => exact ⟨a, b, c, d, e, rfl⟩
  obtain ⟨c0, c1, c2, c3, c4, rfl⟩ : ∃ a b c d e, cs = [a, b, c, d, e] := by
    match cs, hlen with
    | [a, b, c, d, e], _ => exact ⟨a, b, c, d, e, rfl⟩
  obtain ⟨k, e0, r0, _⟩ := DataW.trod_int Tryz.underlying3 f0
  obtain ⟨z, e1, r1, hz⟩ := DataW.trod_int Tryz.underlying2 f1
  obtain ⟨s, e2, r2, _⟩ := DataW.trod_string Tryz.underlying9 f2
  obtain ⟨b, e3, r3⟩ := DataW.trod_bool Tryz.underlying4 f3
  obtain ⟨v, l, e4, hlies, hq, hw⟩ := open_rows Ex.cells (Ex.In w) wE Tryz.underlying49 c_expr (by decide) (fun j hj => ih j (by omega)) f4
  simp at e0 e1 e2 e3 e4
  subst e0; subst e1; subst e2; subst e3; subst e4; subst r0; subst r1; subst r2; subst r3
  refine ⟨.mk k z s b c4 l, rfl, ?_, ?_⟩
  · rw [Ex.In, Ex.ins_iff]
    exact ⟨bounds_i64 hz, hlies, hq⟩
  · simp only [wE, wEs_sum, List.map_cons, List.map_nil, Rows.uptoBulk, Rows.uptoBulkAll, size_toList]
    omega

theorem open_st (n : Nat) : ∀ (cs : List Value) (x : DataW H × List MemPlace), DataW.trod enc Tryz.prog w base sp hd n 111 cs = some x → ∃ T : St, cs = T.cells ∧ T.In w ∧ wS T ≤ Rows.uptoBulk x.1 := by
  induction n using Nat.strongRecOn with
  | ind n ih =>
  intro cs x h
  obtain ⟨xs, m, rfl, rfl, hlen, hxs, hf⟩ := DataW.trod_struct Tryz.underlying111 h
  rw [c_stmt] at hlen
  have f0 := field hf 0 3 0 1 rfl c_int
  have f1 := field hf 1 9 1 1 rfl c_string
  have f2 := field hf 2 51 2 5 rfl c_expr
  have f3 := field hf 3 51 7 5 rfl c_expr
  have f4 := field hf 4 48 12 1 rfl c_stmts
  have f5 := field hf 5 48 13 1 rfl c_stmts
  clear hf h
  obtain ⟨x0, x1, x2, x3, x4, x5, rfl⟩ : ∃ a b c d e f, xs = [a, b, c, d, e, f] := by
    match xs, hxs with
    | [a, b, c, d, e, f], _ => exact ⟨a, b, c, d, e, f, rfl⟩
  obtain ⟨c0, c1, c2, c3, c4, c5, c6, c7, c8, c9, ca, cb, cc, cd, rfl⟩ : ∃ c0 c1 c2 c3 c4 c5 c6 c7 c8 c9 ca cb cc cd, cs = [c0, c1, c2, c3, c4, c5, c6, c7, c8, c9, ca, cb, cc, cd] := by
    match cs, hlen with
    | [c0, c1, c2, c3, c4, c5, c6, c7, c8, c9, ca, cb, cc, cd], _ => exact ⟨c0, c1, c2, c3, c4, c5, c6, c7, c8, c9, ca, cb, cc, cd, rfl⟩
  obtain ⟨k, e0, r0, _⟩ := DataW.trod_int Tryz.underlying3 f0
  obtain ⟨s, e1, r1, _⟩ := DataW.trod_string Tryz.underlying9 f1
  obtain ⟨p, e2, hpin, hpw⟩ := open_ex _ _ _ f2
  obtain ⟨q, e3, hqin, hqw⟩ := open_ex _ _ _ f3
  obtain ⟨tv, tl, e4, hlies4, hq4, hw4⟩ := open_rows St.cells (St.In w) wS Tryz.underlying48 c_stmt (by decide) (fun j hj => ih j (by omega)) f4
  obtain ⟨ev, el, e5, hlies5, hq5, hw5⟩ := open_rows St.cells (St.In w) wS Tryz.underlying48 c_stmt (by decide) (fun j hj => ih j (by omega)) f5
  obtain ⟨pk, pn, ps, pm, pv, pl⟩ := p
  obtain ⟨qk, qn, qs, qm, qv, ql⟩ := q
  simp [Ex.cells] at e0 e1 e2 e3 e4 e5
  obtain ⟨rfl, rfl, rfl, rfl, rfl⟩ := e2
  obtain ⟨rfl, rfl, rfl, rfl, rfl⟩ := e3
  subst e0; subst e1; subst e4; subst e5; subst r0; subst r1
  refine ⟨.mk k s (.mk pk pn ps pm c6 pl) (.mk qk qn qs qm cb ql) cc tl cd el, rfl, ?_, ?_⟩
  · rw [St.In, St.ins_iff, St.ins_iff]
    exact ⟨hpin, hqin, hlies4, hq4, hlies5, hq5⟩
  · simp only [wS, wSs_sum, List.map_cons, List.map_nil, Rows.uptoBulk, Rows.uptoBulkAll, size_toList]
    omega

theorem open_pa (n : Nat) (cs : List Value) (x : DataW H × List MemPlace) (h : DataW.trod enc Tryz.prog w base sp hd n 59 cs = some x) : ∃ T : Pa, cs = T.cells ∧ T.In w ∧ wPa T ≤ Rows.uptoBulk x.1 := by
  obtain ⟨xs, m, rfl, rfl, hlen, hxs, hf⟩ := DataW.trod_struct Tryz.underlying59 h
  rw [c_param] at hlen
  have f0 := field hf 0 9 0 1 rfl c_string
  have f1 := field hf 1 45 1 4 rfl c_type
  clear hf h
  obtain ⟨x0, x1, rfl⟩ : ∃ a b, xs = [a, b] := by
    match xs, hxs with
    | [a, b], _ => exact ⟨a, b, rfl⟩
  obtain ⟨c0, c1, c2, c3, c4, rfl⟩ : ∃ a b c d e, cs = [a, b, c, d, e] := by
    match cs, hlen with
    | [a, b, c, d, e], _ => exact ⟨a, b, c, d, e, rfl⟩
  obtain ⟨s, e0, r0, _⟩ := DataW.trod_string Tryz.underlying9 f0
  obtain ⟨p, e1, hpin, hpw⟩ := open_ty _ _ _ f1
  obtain ⟨pk, ps, pm, pv, pl⟩ := p
  simp [Ty.cells] at e0 e1
  obtain ⟨rfl, rfl, rfl, rfl⟩ := e1
  subst e0; subst r0
  refine ⟨⟨s, .mk pk ps pm c4 pl⟩, rfl, hpin, ?_⟩
  simp only [wPa, List.map_cons, List.map_nil, Rows.uptoBulk, Rows.uptoBulkAll, size_toList]
  omega

theorem open_names {n : Nat} {cs : List Value} {x : DataW H × List MemPlace} (h : DataW.trod enc Tryz.prog w base sp hd n 46 cs = some x) : ∃ (v : Value) (l : List ByteArray), cs = [v] ∧ Lies w 1 v (l.map nmCells) ∧ 1 + wNs l ≤ Rows.uptoBulk x.1 := by
  obtain ⟨v, l, e, hlies, _, hw⟩ := open_rows (α := ByteArray) nmCells (fun _ => True) (fun s => 1 + s.size) Tryz.underlying46 c_string (by decide) (fun j _ cs' y hy => by
    obtain ⟨s, rfl, e, _⟩ := DataW.trod_string Tryz.underlying9 hy
    exact ⟨s, rfl, trivial, by rw [e]; simp only [Rows.uptoBulk, size_toList]; omega⟩) h
  exact ⟨v, l, e, hlies, by rw [wNs_sum]; exact hw⟩

theorem open_fn (n : Nat) (cs : List Value) (x : DataW H × List MemPlace) (h : DataW.trod enc Tryz.prog w base sp hd n 53 cs = some x) : ∃ T : TreeP.Fn, cs = T.cells ∧ T.In w ∧ wF T ≤ Rows.uptoBulk x.1 := by
  obtain ⟨xs, m, rfl, rfl, hlen, hxs, hf⟩ := DataW.trod_struct Tryz.underlying53 h
  rw [c_fn] at hlen
  have f0 := field hf 0 9 0 1 rfl c_string
  have f1 := field hf 1 46 1 1 rfl c_strings
  have f2 := field hf 2 47 2 1 rfl c_params
  have f3 := field hf 3 45 3 4 rfl c_type
  have f4 := field hf 4 46 7 1 rfl c_strings
  have f5 := field hf 5 48 8 1 rfl c_stmts
  have f6 := field hf 6 51 9 5 rfl c_expr
  clear hf h
  obtain ⟨x0, x1, x2, x3, x4, x5, x6, rfl⟩ : ∃ a b c d e f g, xs = [a, b, c, d, e, f, g] := by
    match xs, hxs with
    | [a, b, c, d, e, f, g], _ => exact ⟨a, b, c, d, e, f, g, rfl⟩
  obtain ⟨c0, c1, c2, c3, c4, c5, c6, c7, c8, c9, ca, cb, cc, cd, rfl⟩ : ∃ c0 c1 c2 c3 c4 c5 c6 c7 c8 c9 ca cb cc cd, cs = [c0, c1, c2, c3, c4, c5, c6, c7, c8, c9, ca, cb, cc, cd] := by
    match cs, hlen with
    | [c0, c1, c2, c3, c4, c5, c6, c7, c8, c9, ca, cb, cc, cd], _ => exact ⟨c0, c1, c2, c3, c4, c5, c6, c7, c8, c9, ca, cb, cc, cd, rfl⟩
  obtain ⟨s, e0, r0, _⟩ := DataW.trod_string Tryz.underlying9 f0
  obtain ⟨v1, l1, e1, hl1, hw1⟩ := open_names f1
  obtain ⟨v2, l2, e2, hl2, hq2, hw2⟩ := open_rows Pa.cells (Pa.In w) wPa Tryz.underlying47 c_param (by decide) (fun j _ => open_pa j) f2
  obtain ⟨p, e3, hpin, hpw⟩ := open_ty _ _ _ f3
  obtain ⟨v4, l4, e4, hl4, hw4⟩ := open_names f4
  obtain ⟨v5, l5, e5, hl5, hq5, hw5⟩ := open_rows St.cells (St.In w) wS Tryz.underlying48 c_stmt (by decide) (fun j _ => open_st j) f5
  obtain ⟨q, e6, hqin, hqw⟩ := open_ex _ _ _ f6
  obtain ⟨pk, ps, pm, pv, pl⟩ := p
  obtain ⟨qk, qn, qs, qm, qv, ql⟩ := q
  simp [Ex.cells, Ty.cells] at e0 e1 e2 e3 e4 e5 e6
  obtain ⟨rfl, rfl, rfl, rfl⟩ := e3
  obtain ⟨rfl, rfl, rfl, rfl, rfl⟩ := e6
  subst e0; subst e1; subst e2; subst e4; subst e5; subst r0
  refine ⟨⟨s, c1, l1, c2, l2, .mk pk ps pm c6 pl, c7, l4, c8, l5, .mk qk qn qs qm cd ql⟩, rfl, ⟨hl1, ⟨hl2, hq2⟩, hpin, hl4, ⟨hl5, (St.ins_iff _ _).2 hq5⟩, hqin⟩, ?_⟩
  simp only [wF, wSs_sum, wPas_sum, List.map_cons, List.map_nil, Rows.uptoBulk, Rows.uptoBulkAll, size_toList]
  omega

set_option maxRecDepth 100000 in
theorem prog_nil {v : Value} {d : DataW H} {ps : List MemPlace} (h : DataW.Trod enc Tryz.prog w base sp hd 22 v d ps) : ∀ m c, v = .slice none m c → m = 0 ∧ c = 0 := by
  rintro m c rfl
  obtain ⟨n, hn⟩ := h
  rcases DataW.trod_slice Tryz.underlying22 hn with ⟨h1, _⟩ | ⟨a, len, cap, elems, rest, m, _, h1, _⟩
  · simp [Value.cells] at h1
    exact h1
  · simp [Value.cells] at h1
set_option maxRecDepth 100000 in
theorem open_prog {r : Reach} {b0 : Nat} {v : Value} {d : DataW H} {ps : List MemPlace} (hval : Value.okWide Tryz.prog w r b0 22 v) (h : DataW.Trod enc Tryz.prog w base sp hd 22 v d ps) :
    ∃ p, ProgIn w v p ∧ 1 + wFs p ≤ Rows.uptoBulk d := by
  obtain ⟨a, len, cap, rfl⟩ := okWide_slice Tryz.underlying22 hval
  obtain ⟨n, hn⟩ := h
  obtain ⟨u, l, e, hlies, hq, hw⟩ := open_rows Fn.cells (Fn.In w) wF Tryz.underlying22 c_fn (by decide) (fun j _ => open_fn j) hn
  simp [Value.cells] at e
  subst e
  exact ⟨l, ⟨hlies, hq⟩, by rw [wFs_sum]; exact hw⟩
set_option maxRecDepth 100000 in
theorem open_type {r : Reach} {b0 : Nat} {v : Value} {d : DataW H} {ps : List MemPlace} (hval : Value.okWide Tryz.prog w r b0 45 v) (h : DataW.Trod enc Tryz.prog w base sp hd 45 v d ps) :
    ∃ t : Ty, v = t.val ∧ t.In w ∧ wT t ≤ Rows.uptoBulk d := by
  obtain ⟨cs, rfl, _⟩ := okWide_struct Tryz.underlying45 hval
  obtain ⟨n, hn⟩ := h
  obtain ⟨T, e, hin, hw⟩ := open_ty n _ _ hn
  simp [Value.cells] at e
  exact ⟨T, by rw [Ty.val, ← e], hin, hw⟩
end
end Go.Proofs.YtjkdcladjjpmoaaGreatDoor.TreeO
/- Two programs, one behind the other: the append, how the whole lies in memory, and the plain laws (right, deep, text). -/
namespace Go.Proofs.YtjkdcladjjpmoaaGreatDoor.TextC
open Go Go.RowKit Go.Lib Go.Sort Go.Proofs.YtjkdcladjjpmoaaGreatDoor.LexP Go.Proofs.YtjkdcladjjpmoaaGreatDoor.TreeP Go.Proofs.YtjkdcladjjpmoaaGreatDoor.LexC Go.Proofs.YtjkdcladjjpmoaaGreatDoor.TreeC Go.Proofs.YtjkdcladjjpmoaaGreatDoor.PageC Go.Proofs.YtjkdcladjjpmoaaGreatDoor.ErrAs

/-! ### Rows of equal length, end to end -/
theorem flat_length {α : Type} (n : Nat) : ∀ L : List (List α), (∀ c ∈ L, c.length = n) → L.flatten.length = L.length * n
  | [], _ => by simp
  | c :: L, h => by
    rw [List.flatten_cons, List.length_append, flat_length n L (fun d hd => h d (by simp [hd])), h c (by simp), List.length_cons, Nat.add_mul]
    omega
theorem flat_get {α : Type} (n : Nat) : ∀ (L : List (List α)), (∀ c ∈ L, c.length = n) → ∀ (i : Nat) (c : List α), L[i]? = some c → ∀ (j : Nat) (u : α), c[j]? = some u → L.flatten[i * n + j]? = some u
  | [], _, i, c, h, _, _, _ => by simp at h
  | d :: L, hl, 0, c, h, j, u, hj => by
    simp at h
    subst h
    have hlt : j < d.length := (List.getElem?_eq_some_iff.1 hj).1
    rw [List.flatten_cons, Nat.zero_mul, Nat.zero_add, List.getElem?_append_left hlt]
    exact hj
  | d :: L, hl, i + 1, c, h, j, u, hj => by
    have hd := hl d (by simp)
    rw [List.flatten_cons, List.getElem?_append_right (by rw [hd, Nat.add_mul]; omega), hd, show (i + 1) * n + j - n = i * n + j by rw [Nat.add_mul]; omega]
    exact flat_get n L (fun d hd => hl d (by simp [hd])) i c (by simpa using h) j u hj
theorem flat_inv {α : Type} (n : Nat) : ∀ (L : List (List α)), (∀ c ∈ L, c.length = n) → ∀ (k : Nat) (u : α), L.flatten[k]? = some u → ∃ i j c, L[i]? = some c ∧ c[j]? = some u ∧ k = i * n + j
  | [], _, k, u, h => by simp at h
  | d :: L, hl, k, u, h => by
    have hd := hl d (by simp)
    by_cases hk : k < d.length
    · rw [List.flatten_cons, List.getElem?_append_left hk] at h
      exact ⟨0, k, d, rfl, h, by omega⟩
    · rw [List.flatten_cons, List.getElem?_append_right (by omega)] at h
      obtain ⟨i, j, c, h1, h2, h3⟩ := flat_inv n L (fun d hd => hl d (by simp [hd])) _ u h
      exact ⟨i + 1, j, c, by simpa using h1, h2, by rw [Nat.add_mul]; omega⟩

/-! ### A list of functions, as cells -/
def fnRow (l : List TreeP.Fn) : List Value := (l.map Fn.cells).flatten
theorem fn_len (f : TreeP.Fn) : f.cells.length = 14 := by
  obtain ⟨n, lv, l, pv, p, ⟨gk, gs, gm, gv, gl⟩, ov, o, bv, b, ⟨ek, en, es, em, ev, el⟩⟩ := f
  rfl
theorem fns_len (l : List TreeP.Fn) : ∀ c ∈ l.map Fn.cells, c.length = 14 := by
  intro c hc
  obtain ⟨f, _, rfl⟩ := List.mem_map.1 hc
  exact fn_len f
theorem fnRow_length (l : List TreeP.Fn) : (fnRow l).length = l.length * 14 := by rw [fnRow, flat_length 14 _ (fns_len l), List.length_map]
theorem fnRow_app (l m : List TreeP.Fn) : fnRow (l ++ m) = fnRow l ++ fnRow m := by simp [fnRow]
theorem lies_one {w : World} {n : Nat} {v : Value} {xs : List (List Value)} (h : Lies w n v xs) : v.oneCell' = true := by
  obtain ⟨p, cap, rfl, _, _⟩ := h
  rfl
theorem fn_one {w : World} {f : TreeP.Fn} (h : f.In w) : ∀ u ∈ f.cells, u.oneCell' = true := by
  obtain ⟨n, lv, l, pv, p, ⟨gk, gs, gm, gv, gl⟩, ov, o, bv, b, ⟨ek, en, es, em, ev, el⟩⟩ := f
  obtain ⟨h1, ⟨h2, _⟩, h3, h4, ⟨h5, _⟩, h6⟩ := h
  rw [Ty.In] at h3
  rw [Ex.In] at h6
  have k1 := lies_one h1
  have k2 := lies_one h2
  have k3 := lies_one h3.1
  have k4 := lies_one h4
  have k5 := lies_one h5
  have k6 := lies_one h6.2.1
  intro u hu
  simp only [Fn.cells, Ty.cells, Ex.cells, List.cons_append, List.nil_append, List.mem_cons, List.mem_nil_iff, or_false] at hu
  rcases hu with rfl | rfl | rfl | rfl | rfl | rfl | rfl | rfl | rfl | rfl | rfl | rfl | rfl | rfl <;> first | assumption | rfl
theorem fnRow_one {w : World} {l : List TreeP.Fn} (h : ∀ f ∈ l, f.In w) : ∀ u ∈ fnRow l, u.oneCell' = true := by
  intro u hu
  simp only [fnRow, List.mem_flatten, List.mem_map] at hu
  obtain ⟨c, ⟨f, hf, rfl⟩, hu⟩ := hu
  exact fn_one (h f hf) u hu
theorem owns_fns {w : World} {base : Nat} {v : Value} {l : List TreeP.Fn} (h : w.ownsRow base 53 14 v l.length (fnRow l)) : Lies w 14 v (l.map Fn.cells) := by
  obtain ⟨h1, ⟨rfl, h2⟩ | ⟨g, cap, cur, rfl, h3, h4, h5, h6, h7, h8⟩⟩ := id h
  · cases l with
    | nil => exact lies_none
    | cons s ss => simp at h2
  · refine ⟨some ⟨g, 0, none⟩, cap, by rw [List.length_map], by rw [List.length_map]; exact h5, fun _ => ⟨g, 0, rfl, fun i c hi j u hj => ?_⟩⟩
    rw [Nat.zero_add]
    exact owns_cell h (flat_get 14 _ (fns_len l) i c hi j u hj)

/-! ### The append -/
theorem fn_info : (Tryz.prog.info? 53).map (fun i => (i.zero, i.size, i.bytes)) = some (some (.agg #[.string ⟨#[]⟩, .slice none 0 0, .slice none 0 0, .int .i64 0, .string ⟨#[]⟩, .bool false, .slice none 0 0, .slice none 0 0, .slice none 0 0, .int .i64 0, .int .i64 0, .string ⟨#[]⟩, .bool false, .slice none 0 0]), 14, 232) := by kernel_rfl
theorem wpList_append_fns {ops : Array Oper} {rest : List Oper} {o : Oper} {a : Act} {Q : Exit → Act → World → Prop} {W : World} (hw : Region.wanted o (yielded ops a.tmps) = true) (s x : Operand)
    (ho : o.op = .call { callee := .builtin .append, args := #[s, x], argTypes := #[22, 22] })
    (base : Nat) (v : Value) (n : Nat) (xs : List Value) (hs : a.eval s = v) (hown : W.ownsRow base 53 14 v n xs)
    (xv : Value) (l : List TreeP.Fn) (hx : a.eval x = xv) (hxo : ProgIn W xv l) (hno : ∀ m c, xv = .slice none m c → m = 0 ∧ c = 0) (hn : n + l.length ≤ 4194304) (hb : base ≤ W.heap.size)
    (h : ∀ v' w', w'.ownsRow base 53 14 v' (n + l.length) (xs ++ fnRow l) → W.grownBy w' v.ownBlock → wpList Tryz.prog ops Q rest (a.put o.dst v') w') : wpList Tryz.prog ops Q (o :: rest) a W := by
  obtain ⟨i0, hi, hz0, hz1, hz2⟩ := info_parts fn_info
  obtain ⟨⟨p, cap, hv, hc, hcell⟩, hall⟩ := id hxo
  rw [List.length_map] at hv hc
  cases p with
  | none =>
    obtain ⟨h0, h00⟩ := hno _ _ hv
    have e : l = [] := List.eq_nil_of_length_eq_zero h0
    subst e
    subst h00
    subst hv
    refine wpList_step fun K hK => ?_
    rw [if_pos hw]
    have hrun := run_append_owned_none (P := Tryz.prog) (w := W) base 22 o.type 53 i0 14 Tryz.underlying22 hi v n xs hown
    unfold Oper.wp
    simp [execOp, ho, resolve, invoke, builtin, hs, hx, hrun, Result.andThen]
    exact hK _ _ (h v W (by simpa [fnRow] using hown) (World.grownBy.refl W _))
  | some ad =>
    refine wpList_step fun K hK => ?_
    rw [if_pos hw]
    refine wp_append_own W s x _ ho base 53 i0 _ 14 232 Tryz.underlying22 hi hz0 hz1 hz2 rfl (by decide) v n xs hs hown ad l.length cap (fnRow l) (hx.trans hv) (fnRow_length l) ?_ (fnRow_one hall) (by unfold maxLen; omega) (by omega) hb ?_
    · intro j u hj
      obtain ⟨i, k, c, h1, h2, rfl⟩ := flat_inv 14 _ (fns_len l) j u hj
      have hne : l.map Fn.cells ≠ [] := by intro e; rw [e] at h1; simp at h1
      obtain ⟨b, off, h3, h4⟩ := hcell hne
      cases h3
      rw [show ∀ i, (⟨b, off, none⟩ : Addr).add i = ⟨b, off + i, none⟩ from fun i => by unfold Addr.add; split <;> simp_all]
      have := h4 i c h1 k u h2
      rwa [Nat.add_assoc] at this
    · intro v' w' h1 h2 _
      exact hK _ _ (h v' w' h1 h2)

/-! ### Plain laws -/
theorem deepFs_app : ∀ (l m : List TreeP.Fn), deepFs (l ++ m) = max (deepFs l) (deepFs m)
  | [], m => by simp [deepFs]
  | f :: l, m => by
    have h := deepFs_app l m
    rw [List.cons_append, deepFs, deepFs, h]
    omega
theorem textFs_app : ∀ (l m : List TreeP.Fn), textFs (l ++ m) = textFs l ++ textFs m
  | [], m => by simp [textFs]
  | f :: l, m => by
    have h := textFs_app l m
    rw [List.cons_append, textFs, textFs, h, List.append_assoc]
theorem wFs_app : ∀ (l m : List TreeP.Fn), wFs (l ++ m) = wFs l + wFs m
  | [], m => by simp [wFs]
  | f :: l, m => by
    have h := wFs_app l m
    rw [List.cons_append, wFs, wFs, h]
    omega
theorem rightP_app (l m : List TreeP.Fn) : rightP (l ++ m) = (rightP l && rightP m && decide (l.length + m.length ≤ 30)) := by
  rw [Bool.eq_iff_iff]
  simp only [rightP, deepFs_app, List.all_append, List.length_append, Bool.and_eq_true, decide_eq_true_eq]
  constructor
  · rintro ⟨⟨⟨h1, h2⟩, h3⟩, h4⟩
    exact ⟨⟨⟨⟨h1, by omega⟩, by omega⟩, ⟨h2, by omega⟩, by omega⟩, h3⟩
  · rintro ⟨⟨⟨⟨h1, h2⟩, h3⟩, ⟨h4, h5⟩, h6⟩, h7⟩
    exact ⟨⟨⟨h1, h4⟩, h7⟩, by omega⟩
end Go.Proofs.YtjkdcladjjpmoaaGreatDoor.TextC
