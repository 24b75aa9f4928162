/- An argument read as data: the tree of types, expressions, statements, functions that it is, how it lies in memory, and that it weighs at most the data's bulk. -/
import Derived.Test.YtjkdcladjjpmoaaGreatDoorJ00
import Derived.Test.YtjkdcladjjpmoaaGreatDoorRows
import Derived.OpenShut
import Derived.Deep.Slices
import Derived.WideShapes
namespace Go.Proofs.YtjkdcladjjpmoaaGreatDoor.TreeO
open Go Go.RowKit Go.ChangeShapes Go.WideShapes Go.Proofs.YtjkdcladjjpmoaaGreatDoor.LexP Go.Proofs.YtjkdcladjjpmoaaGreatDoor.TreeP

theorem list_of {α : Type} {p : Nat → α → Prop} : ∀ n : Nat, (∀ i, i < n → ∃ x, p i x) → ∃ l : List α, l.length = n ∧ ∀ (i : Nat) (a : α), l[i]? = some a → p i a
  | 0, _ => ⟨[], rfl, fun i a h => by simp at h⟩
  | n + 1, h => by
    obtain ⟨l, hl, hp⟩ := list_of n fun i hi => h i (by omega)
    obtain ⟨x, hx⟩ := h n (by omega)
    refine ⟨l ++ [x], by simp [hl], fun i a hi => ?_⟩
    by_cases h1 : i < l.length
    · rw [List.getElem?_append_left h1] at hi
      exact hp i a hi
    · rw [List.getElem?_append_right (by omega)] at hi
      have hlt : i - l.length < [x].length := (List.getElem?_eq_some_iff.1 hi).1
      have e : i = n := by simp at hlt; omega
      subst e
      simp [hl] at hi
      subst hi
      exact hx
theorem sum_bulk {H α : Type} (wt : α → Nat) : ∀ (l : List α) (es : List (DataW H)), l.length = es.length → (∀ (i : Nat) (a : α) (y : DataW H), l[i]? = some a → es[i]? = some y → wt a ≤ Rows.uptoBulk y) → (l.map wt).sum ≤ Rows.uptoBulkAll es
  | [], [], _, _ => by simp
  | a :: l, y :: es, hl, h => by
    have h0 := h 0 a y rfl rfl
    have := sum_bulk wt l es (by simpa using hl) fun i b z hb hz => h (i + 1) b z (by simpa using hb) (by simpa using hz)
    simp only [List.map_cons, List.sum_cons, Rows.uptoBulkAll]
    omega
  | [], y :: es, hl, _ => by simp at hl
  | a :: l, [], hl, _ => by simp at hl

section
variable {H : Type} {enc : TypeId × Value → H} {w : World} {base : Nat} {sp : Nat → Bool} {hd : Bool}

theorem open_rows {α : Type} {P : Program} (cells : α → List Value) (Q : α → Prop) (wt : α → Nat) {t e : TypeId} {size n : Nat} {cs : List Value} {x : DataW H × List MemPlace}
    (ht : P.underlying t = some (.slice e)) (hc : P.cellsOf e = size) (hs : 0 < size)
    (ih : ∀ m, m < n → ∀ cs' y, DataW.trod enc P w base sp hd m e cs' = some y → ∃ a, cs' = cells a ∧ Q a ∧ wt a ≤ Rows.uptoBulk y.1)
    (h : DataW.trod enc P w base sp hd n t cs = some x) :
    ∃ (v : Value) (l : List α), cs = [v] ∧ Lies w size v (l.map cells) ∧ (∀ a ∈ l, Q a) ∧ 1 + (l.map wt).sum ≤ Rows.uptoBulk x.1 := by
  rcases DataW.trod_slice ht h with ⟨rfl, rfl⟩ | ⟨a, len, cap, elems, rest, m, rfl, rfl, rfl, hb, hl, hm, hlen, hel, _, _⟩
  · exact ⟨_, [], rfl, ⟨none, 0, rfl, by simp, fun h => absurd rfl h⟩, by simp, by simp [Rows.uptoBulk]⟩
  · have key : ∀ i, i < len → ∃ A : α, ∃ y, elems[i]? = some y ∧ w.cells? base (a.add (i * size)) size = some (cells A) ∧ Q A ∧ wt A ≤ Rows.uptoBulk y.1 := by
      intro i hi
      have h1 := hel i hi
      rw [hc, List.getElem?_eq_getElem (by omega)] at h1
      obtain ⟨cs', h2, h3⟩ := Option.bind_eq_some_iff.1 h1
      obtain ⟨A, rfl, hq, hw⟩ := ih m (by omega) cs' _ h3
      exact ⟨A, _, List.getElem?_eq_getElem _, h2, hq, hw⟩
    obtain ⟨l, hll, hp⟩ := list_of len key
    refine ⟨_, l, rfl, ⟨some a, cap, by simp [hll], by simp [hll]; omega, fun hne => ?_⟩, fun A hA => ?_, ?_⟩
    · obtain ⟨b, off, spot⟩ := a
      have hpos : 0 < l.length := by
        cases l with
        | nil => exact absurd rfl hne
        | cons _ _ => simp
      obtain ⟨A0, hA0⟩ : ∃ A0, l[0]? = some A0 := ⟨_, List.getElem?_eq_getElem hpos⟩
      obtain ⟨y, _, h2, _, _⟩ := hp 0 A0 hA0
      obtain ⟨_, hlen0, hcell⟩ := World.cells?_some h2
      have g0 := hcell 0 hs
      obtain ⟨c0, hc0⟩ : ∃ c0, (cells A0)[0]? = some c0 := ⟨_, List.getElem?_eq_getElem (by omega)⟩
      rw [hc0] at g0
      have hspot : spot = none := by simpa [Addr.add] using World.cell?_spot g0
      subst hspot
      refine ⟨b, off, rfl, fun i c hi j u hj => ?_⟩
      rw [List.getElem?_map] at hi
      obtain ⟨A, hA, rfl⟩ := Option.map_eq_some_iff.1 hi
      obtain ⟨y, _, h2, _, _⟩ := hp i A hA
      obtain ⟨_, hlenA, hcell⟩ := World.cells?_some h2
      have hjlt : j < size := by rw [← hlenA]; exact (List.getElem?_eq_some_iff.1 hj).1
      have := hcell j hjlt
      rw [WideShapes.add_plain, WideShapes.add_plain, hj] at this
      exact this
    · obtain ⟨i, hi, rfl⟩ := List.getElem_of_mem hA
      obtain ⟨y, _, _, hq, _⟩ := hp i _ (List.getElem?_eq_getElem hi)
      exact hq
    · have := sum_bulk (H := H) wt l (elems.map (·.1)) (by simp [hll, hlen]) fun i A y hA hy => by
        obtain ⟨z, hz, _, _, hwz⟩ := hp i A hA
        rw [List.getElem?_map, hz] at hy
        simp at hy
        subst hy
        exact hwz
      simp only [Rows.uptoBulk]
      omega

theorem wTs_sum : ∀ l : List Ty, wTs l = (l.map wT).sum
  | [] => by simp [wTs]
  | t :: ts => by simp [wTs, wTs_sum ts]
theorem wEs_sum : ∀ l : List Ex, wEs l = (l.map wE).sum
  | [] => by simp [wEs]
  | t :: ts => by simp [wEs, wEs_sum ts]
theorem wSs_sum : ∀ l : List St, wSs l = (l.map wS).sum
  | [] => by simp [wSs]
  | t :: ts => by simp [wSs, wSs_sum ts]
theorem wPas_sum : ∀ l : List Pa, wPas l = (l.map wPa).sum
  | [] => by simp [wPas]
  | t :: ts => by simp [wPas, wPas_sum ts]
theorem wNs_sum : ∀ l : List ByteArray, wNs l = (l.map fun s => 1 + s.size).sum
  | [] => by simp [wNs]
  | t :: ts => by simp [wNs, wNs_sum ts]
theorem wFs_sum : ∀ l : List TreeP.Fn, wFs l = (l.map wF).sum
  | [] => by simp [wFs]
  | t :: ts => by simp [wFs, wFs_sum ts]
theorem size_toList (s : ByteArray) : s.data.toList.length = s.size := by rw [Array.length_toList]; rfl

theorem field {P : Program} {m : Nat} {fs : Array Field} {cs : List Value} {xs : List (DataW H × List MemPlace)} (hf : ∀ (i : Nat) (f : Field), fs[i]? = some f → DataW.trod enc P w base sp hd m f.type ((cs.drop f.offset).take (P.cellsOf f.type)) = xs[i]?)
    (i t o n : Nat) (h : (fs[i]?).map (fun f => (f.type, f.offset)) = some (t, o)) (hc : P.cellsOf t = n) : DataW.trod enc P w base sp hd m t ((cs.drop o).take n) = xs[i]? := by
  obtain ⟨f, h1, h2⟩ := Option.map_eq_some_iff.1 h
  have := hf i f h1
  simp only [Prod.mk.injEq] at h2
  obtain ⟨rfl, rfl⟩ := h2
  rw [hc] at this
  exact this
theorem c_int : Tryz.prog.cellsOf 3 = 1 := by kernel_rfl
theorem c_int64 : Tryz.prog.cellsOf 2 = 1 := by kernel_rfl
theorem c_string : Tryz.prog.cellsOf 9 = 1 := by kernel_rfl
theorem c_bool : Tryz.prog.cellsOf 4 = 1 := by kernel_rfl
theorem c_type : Tryz.prog.cellsOf 45 = 4 := by kernel_rfl
theorem c_expr : Tryz.prog.cellsOf 51 = 5 := by kernel_rfl
theorem c_stmt : Tryz.prog.cellsOf 111 = 14 := by kernel_rfl
theorem c_param : Tryz.prog.cellsOf 59 = 5 := by kernel_rfl
theorem c_fn : Tryz.prog.cellsOf 53 = 14 := by kernel_rfl
theorem c_types : Tryz.prog.cellsOf 43 = 1 := by kernel_rfl
theorem c_exprs : Tryz.prog.cellsOf 49 = 1 := by kernel_rfl
theorem c_stmts : Tryz.prog.cellsOf 48 = 1 := by kernel_rfl
theorem c_params : Tryz.prog.cellsOf 47 = 1 := by kernel_rfl
theorem c_strings : Tryz.prog.cellsOf 46 = 1 := by kernel_rfl

theorem open_ty (n : Nat) : ∀ (cs : List Value) (x : DataW H × List MemPlace), DataW.trod enc Tryz.prog w base sp hd n 45 cs = some x → ∃ T : Ty, cs = T.cells ∧ T.In w ∧ wT T ≤ Rows.uptoBulk x.1 := by
  induction n using Nat.strongRecOn with
  | ind n ih =>
  intro cs x h
  obtain ⟨xs, m, rfl, rfl, hlen, hxs, hf⟩ := DataW.trod_struct Tryz.underlying45 h
  rw [c_type] at hlen
  have f0 := field hf 0 3 0 1 rfl c_int
  have f1 := field hf 1 9 1 1 rfl c_string
  have f2 := field hf 2 4 2 1 rfl c_bool
  have f3 := field hf 3 43 3 1 rfl c_types
  clear hf h
  obtain ⟨x0, x1, x2, x3, rfl⟩ : ∃ a b c d, xs = [a, b, c, d] := by
    match xs, hxs with
    | [a, b, c, d], _ => exact ⟨a, b, c, d, rfl⟩
  obtain ⟨c0, c1, c2, c3, rfl⟩ : ∃ a b c d, cs = [a, b, c, d] := by
    match cs, hlen with
    | [a, b, c, d], _ => exact ⟨a, b, c, d, rfl⟩
  obtain ⟨k, e0, r0, _⟩ := DataW.trod_int Tryz.underlying3 f0
  obtain ⟨s, e1, r1, _⟩ := DataW.trod_string Tryz.underlying9 f1
  obtain ⟨b, e2, r2⟩ := DataW.trod_bool Tryz.underlying4 f2
  obtain ⟨v, l, e3, hlies, hq, hw⟩ := open_rows Ty.cells (Ty.In w) wT Tryz.underlying43 c_type (by decide) (fun j hj => ih j (by omega)) f3
  simp at e0 e1 e2 e3
  subst e0; subst e1; subst e2; subst e3; subst r0; subst r1; subst r2
  refine ⟨.mk k s b c3 l, rfl, ?_, ?_⟩
  · rw [Ty.In, Ty.ins_iff]
    exact ⟨hlies, hq⟩
  · simp only [wT, wTs_sum, List.map_cons, List.map_nil, Rows.uptoBulk, Rows.uptoBulkAll, size_toList]
    omega

theorem open_ex (n : Nat) : ∀ (cs : List Value) (x : DataW H × List MemPlace), DataW.trod enc Tryz.prog w base sp hd n 51 cs = some x → ∃ T : Ex, cs = T.cells ∧ T.In w ∧ wE T ≤ Rows.uptoBulk x.1 := by
  induction n using Nat.strongRecOn with
  | ind n ih =>
  intro cs x h
  obtain ⟨xs, m, rfl, rfl, hlen, hxs, hf⟩ := DataW.trod_struct Tryz.underlying51 h
  rw [c_expr] at hlen
  have f0 := field hf 0 3 0 1 rfl c_int
  have f1 := field hf 1 2 1 1 rfl c_int64
  have f2 := field hf 2 9 2 1 rfl c_string
  have f3 := field hf 3 4 3 1 rfl c_bool
  have f4 := field hf 4 49 4 1 rfl c_exprs
  clear hf h
  obtain ⟨x0, x1, x2, x3, x4, rfl⟩ : ∃ a b c d e, xs = [a, b, c, d, e] := by
    match xs, hxs with
    | [a, b, c, d, e], _ => exact ⟨a, b, c, d, e, rfl⟩
  obtain ⟨c0, c1, c2, c3, c4, rfl⟩ : ∃ a b c d e, cs = [a, b, c, d, e] := by
    match cs, hlen with
    | [a, b, c, d, e], _ => exact ⟨a, b, c, d, e, rfl⟩
  obtain ⟨k, e0, r0, _⟩ := DataW.trod_int Tryz.underlying3 f0
  obtain ⟨z, e1, r1, hz⟩ := DataW.trod_int Tryz.underlying2 f1
  obtain ⟨s, e2, r2, _⟩ := DataW.trod_string Tryz.underlying9 f2
  obtain ⟨b, e3, r3⟩ := DataW.trod_bool Tryz.underlying4 f3
  obtain ⟨v, l, e4, hlies, hq, hw⟩ := open_rows Ex.cells (Ex.In w) wE Tryz.underlying49 c_expr (by decide) (fun j hj => ih j (by omega)) f4
  simp at e0 e1 e2 e3 e4
  subst e0; subst e1; subst e2; subst e3; subst e4; subst r0; subst r1; subst r2; subst r3
  refine ⟨.mk k z s b c4 l, rfl, ?_, ?_⟩
  · rw [Ex.In, Ex.ins_iff]
    exact ⟨bounds_i64 hz, hlies, hq⟩
  · simp only [wE, wEs_sum, List.map_cons, List.map_nil, Rows.uptoBulk, Rows.uptoBulkAll, size_toList]
    omega

theorem open_st (n : Nat) : ∀ (cs : List Value) (x : DataW H × List MemPlace), DataW.trod enc Tryz.prog w base sp hd n 111 cs = some x → ∃ T : St, cs = T.cells ∧ T.In w ∧ wS T ≤ Rows.uptoBulk x.1 := by
  induction n using Nat.strongRecOn with
  | ind n ih =>
  intro cs x h
  obtain ⟨xs, m, rfl, rfl, hlen, hxs, hf⟩ := DataW.trod_struct Tryz.underlying111 h
  rw [c_stmt] at hlen
  have f0 := field hf 0 3 0 1 rfl c_int
  have f1 := field hf 1 9 1 1 rfl c_string
  have f2 := field hf 2 51 2 5 rfl c_expr
  have f3 := field hf 3 51 7 5 rfl c_expr
  have f4 := field hf 4 48 12 1 rfl c_stmts
  have f5 := field hf 5 48 13 1 rfl c_stmts
  clear hf h
  obtain ⟨x0, x1, x2, x3, x4, x5, rfl⟩ : ∃ a b c d e f, xs = [a, b, c, d, e, f] := by
    match xs, hxs with
    | [a, b, c, d, e, f], _ => exact ⟨a, b, c, d, e, f, rfl⟩
  obtain ⟨c0, c1, c2, c3, c4, c5, c6, c7, c8, c9, ca, cb, cc, cd, rfl⟩ : ∃ c0 c1 c2 c3 c4 c5 c6 c7 c8 c9 ca cb cc cd, cs = [c0, c1, c2, c3, c4, c5, c6, c7, c8, c9, ca, cb, cc, cd] := by
    match cs, hlen with
    | [c0, c1, c2, c3, c4, c5, c6, c7, c8, c9, ca, cb, cc, cd], _ => exact ⟨c0, c1, c2, c3, c4, c5, c6, c7, c8, c9, ca, cb, cc, cd, rfl⟩
  obtain ⟨k, e0, r0, _⟩ := DataW.trod_int Tryz.underlying3 f0
  obtain ⟨s, e1, r1, _⟩ := DataW.trod_string Tryz.underlying9 f1
  obtain ⟨p, e2, hpin, hpw⟩ := open_ex _ _ _ f2
  obtain ⟨q, e3, hqin, hqw⟩ := open_ex _ _ _ f3
  obtain ⟨tv, tl, e4, hlies4, hq4, hw4⟩ := open_rows St.cells (St.In w) wS Tryz.underlying48 c_stmt (by decide) (fun j hj => ih j (by omega)) f4
  obtain ⟨ev, el, e5, hlies5, hq5, hw5⟩ := open_rows St.cells (St.In w) wS Tryz.underlying48 c_stmt (by decide) (fun j hj => ih j (by omega)) f5
  obtain ⟨pk, pn, ps, pm, pv, pl⟩ := p
  obtain ⟨qk, qn, qs, qm, qv, ql⟩ := q
  simp [Ex.cells] at e0 e1 e2 e3 e4 e5
  obtain ⟨rfl, rfl, rfl, rfl, rfl⟩ := e2
  obtain ⟨rfl, rfl, rfl, rfl, rfl⟩ := e3
  subst e0; subst e1; subst e4; subst e5; subst r0; subst r1
  refine ⟨.mk k s (.mk pk pn ps pm c6 pl) (.mk qk qn qs qm cb ql) cc tl cd el, rfl, ?_, ?_⟩
  · rw [St.In, St.ins_iff, St.ins_iff]
    exact ⟨hpin, hqin, hlies4, hq4, hlies5, hq5⟩
  · simp only [wS, wSs_sum, List.map_cons, List.map_nil, Rows.uptoBulk, Rows.uptoBulkAll, size_toList]
    omega

theorem open_pa (n : Nat) (cs : List Value) (x : DataW H × List MemPlace) (h : DataW.trod enc Tryz.prog w base sp hd n 59 cs = some x) : ∃ T : Pa, cs = T.cells ∧ T.In w ∧ wPa T ≤ Rows.uptoBulk x.1 := by
  obtain ⟨xs, m, rfl, rfl, hlen, hxs, hf⟩ := DataW.trod_struct Tryz.underlying59 h
  rw [c_param] at hlen
  have f0 := field hf 0 9 0 1 rfl c_string
  have f1 := field hf 1 45 1 4 rfl c_type
  clear hf h
  obtain ⟨x0, x1, rfl⟩ : ∃ a b, xs = [a, b] := by
    match xs, hxs with
    | [a, b], _ => exact ⟨a, b, rfl⟩
  obtain ⟨c0, c1, c2, c3, c4, rfl⟩ : ∃ a b c d e, cs = [a, b, c, d, e] := by
    match cs, hlen with
    | [a, b, c, d, e], _ => exact ⟨a, b, c, d, e, rfl⟩
  obtain ⟨s, e0, r0, _⟩ := DataW.trod_string Tryz.underlying9 f0
  obtain ⟨p, e1, hpin, hpw⟩ := open_ty _ _ _ f1
  obtain ⟨pk, ps, pm, pv, pl⟩ := p
  simp [Ty.cells] at e0 e1
  obtain ⟨rfl, rfl, rfl, rfl⟩ := e1
  subst e0; subst r0
  refine ⟨⟨s, .mk pk ps pm c4 pl⟩, rfl, hpin, ?_⟩
  simp only [wPa, List.map_cons, List.map_nil, Rows.uptoBulk, Rows.uptoBulkAll, size_toList]
  omega

theorem open_names {n : Nat} {cs : List Value} {x : DataW H × List MemPlace} (h : DataW.trod enc Tryz.prog w base sp hd n 46 cs = some x) : ∃ (v : Value) (l : List ByteArray), cs = [v] ∧ Lies w 1 v (l.map nmCells) ∧ 1 + wNs l ≤ Rows.uptoBulk x.1 := by
  obtain ⟨v, l, e, hlies, _, hw⟩ := open_rows (α := ByteArray) nmCells (fun _ => True) (fun s => 1 + s.size) Tryz.underlying46 c_string (by decide) (fun j _ cs' y hy => by
    obtain ⟨s, rfl, e, _⟩ := DataW.trod_string Tryz.underlying9 hy
    exact ⟨s, rfl, trivial, by rw [e]; simp only [Rows.uptoBulk, size_toList]; omega⟩) h
  exact ⟨v, l, e, hlies, by rw [wNs_sum]; exact hw⟩

theorem open_fn (n : Nat) (cs : List Value) (x : DataW H × List MemPlace) (h : DataW.trod enc Tryz.prog w base sp hd n 53 cs = some x) : ∃ T : TreeP.Fn, cs = T.cells ∧ T.In w ∧ wF T ≤ Rows.uptoBulk x.1 := by
  obtain ⟨xs, m, rfl, rfl, hlen, hxs, hf⟩ := DataW.trod_struct Tryz.underlying53 h
  rw [c_fn] at hlen
  have f0 := field hf 0 9 0 1 rfl c_string
  have f1 := field hf 1 46 1 1 rfl c_strings
  have f2 := field hf 2 47 2 1 rfl c_params
  have f3 := field hf 3 45 3 4 rfl c_type
  have f4 := field hf 4 46 7 1 rfl c_strings
  have f5 := field hf 5 48 8 1 rfl c_stmts
  have f6 := field hf 6 51 9 5 rfl c_expr
  clear hf h
  obtain ⟨x0, x1, x2, x3, x4, x5, x6, rfl⟩ : ∃ a b c d e f g, xs = [a, b, c, d, e, f, g] := by
    match xs, hxs with
    | [a, b, c, d, e, f, g], _ => exact ⟨a, b, c, d, e, f, g, rfl⟩
  obtain ⟨c0, c1, c2, c3, c4, c5, c6, c7, c8, c9, ca, cb, cc, cd, rfl⟩ : ∃ c0 c1 c2 c3 c4 c5 c6 c7 c8 c9 ca cb cc cd, cs = [c0, c1, c2, c3, c4, c5, c6, c7, c8, c9, ca, cb, cc, cd] := by
    match cs, hlen with
    | [c0, c1, c2, c3, c4, c5, c6, c7, c8, c9, ca, cb, cc, cd], _ => exact ⟨c0, c1, c2, c3, c4, c5, c6, c7, c8, c9, ca, cb, cc, cd, rfl⟩
  obtain ⟨s, e0, r0, _⟩ := DataW.trod_string Tryz.underlying9 f0
  obtain ⟨v1, l1, e1, hl1, hw1⟩ := open_names f1
  obtain ⟨v2, l2, e2, hl2, hq2, hw2⟩ := open_rows Pa.cells (Pa.In w) wPa Tryz.underlying47 c_param (by decide) (fun j _ => open_pa j) f2
  obtain ⟨p, e3, hpin, hpw⟩ := open_ty _ _ _ f3
  obtain ⟨v4, l4, e4, hl4, hw4⟩ := open_names f4
  obtain ⟨v5, l5, e5, hl5, hq5, hw5⟩ := open_rows St.cells (St.In w) wS Tryz.underlying48 c_stmt (by decide) (fun j _ => open_st j) f5
  obtain ⟨q, e6, hqin, hqw⟩ := open_ex _ _ _ f6
  obtain ⟨pk, ps, pm, pv, pl⟩ := p
  obtain ⟨qk, qn, qs, qm, qv, ql⟩ := q
  simp [Ex.cells, Ty.cells] at e0 e1 e2 e3 e4 e5 e6
  obtain ⟨rfl, rfl, rfl, rfl⟩ := e3
  obtain ⟨rfl, rfl, rfl, rfl, rfl⟩ := e6
  subst e0; subst e1; subst e2; subst e4; subst e5; subst r0
  refine ⟨⟨s, c1, l1, c2, l2, .mk pk ps pm c6 pl, c7, l4, c8, l5, .mk qk qn qs qm cd ql⟩, rfl, ⟨hl1, ⟨hl2, hq2⟩, hpin, hl4, ⟨hl5, (St.ins_iff _ _).2 hq5⟩, hqin⟩, ?_⟩
  simp only [wF, wSs_sum, wPas_sum, List.map_cons, List.map_nil, Rows.uptoBulk, Rows.uptoBulkAll, size_toList]
  omega

set_option maxRecDepth 100000 in
theorem prog_nil {v : Value} {d : DataW H} {ps : List MemPlace} (h : DataW.Trod enc Tryz.prog w base sp hd 22 v d ps) : ∀ m c, v = .slice none m c → m = 0 ∧ c = 0 := by
  rintro m c rfl
  obtain ⟨n, hn⟩ := h
  rcases DataW.trod_slice Tryz.underlying22 hn with ⟨h1, _⟩ | ⟨a, len, cap, elems, rest, m, _, h1, _⟩
  · simp [Value.cells] at h1
    exact h1
  · simp [Value.cells] at h1
set_option maxRecDepth 100000 in
theorem open_prog {r : Reach} {b0 : Nat} {v : Value} {d : DataW H} {ps : List MemPlace} (hval : Value.okWide Tryz.prog w r b0 22 v) (h : DataW.Trod enc Tryz.prog w base sp hd 22 v d ps) :
    ∃ p, ProgIn w v p ∧ 1 + wFs p ≤ Rows.uptoBulk d := by
  obtain ⟨a, len, cap, rfl⟩ := okWide_slice Tryz.underlying22 hval
  obtain ⟨n, hn⟩ := h
  obtain ⟨u, l, e, hlies, hq, hw⟩ := open_rows Fn.cells (Fn.In w) wF Tryz.underlying22 c_fn (by decide) (fun j _ => open_fn j) hn
  simp [Value.cells] at e
  subst e
  exact ⟨l, ⟨hlies, hq⟩, by rw [wFs_sum]; exact hw⟩
set_option maxRecDepth 100000 in
theorem open_type {r : Reach} {b0 : Nat} {v : Value} {d : DataW H} {ps : List MemPlace} (hval : Value.okWide Tryz.prog w r b0 45 v) (h : DataW.Trod enc Tryz.prog w base sp hd 45 v d ps) :
    ∃ t : Ty, v = t.val ∧ t.In w ∧ wT t ≤ Rows.uptoBulk d := by
  obtain ⟨cs, rfl, _⟩ := okWide_struct Tryz.underlying45 hval
  obtain ⟨n, hn⟩ := h
  obtain ⟨T, e, hin, hw⟩ := open_ty n _ _ hn
  simp [Value.cells] at e
  exact ⟨T, by rw [Ty.val, ← e], hin, hw⟩
end
end Go.Proofs.YtjkdcladjjpmoaaGreatDoor.TreeO
