/- Texts joined: NmY, TreeO, NmRow, NmWholeFact. -/
import Derived.Test.YtemflcojebanlaaGreatDoorJ35
import Derived.Test.YtemflcojebanlaaGreatDoorJ36
import Derived.Test.YtemflcojebanlaaGreatDoorJ00
import Derived.Test.YtemflcojebanlaaGreatDoorRows
import Derived.OpenShut
import Derived.Deep.Slices
import Derived.WideShapes
import Derived.Test.YtemflcojebanlaaGreatDoorCards
import Derived.Test.YtemflcojebanlaaGreatDoorTie
import Derived.ProofKit
import Derived.Deep.DeepHandedRow
import Derived.Lib.LaidTab
import Derived.Lib.LaidU8
import Derived.LaidHandle
import Derived.LaidLaws
/- The contracts of the statements NamesChecks and NamesWhole: they return true, whatever the program, or the type (of weight at most 1048576). -/
namespace Go.Proofs.YtemflcojebanlaaGreatDoor.NmC
open Go Go.RowKit Go.Lib Go.Sort Go.Maps LexP TreeP LexC TreeC NmP ErrAs

/-- what is asked of the library's variables -/
structure NLists (w : World) : Prop where
 tabs : Tabs w
 err : ErrVar w
set_option maxHeartbeats 4000000 in
set_option maxRecDepth 100000 in
theorem namesChecks_any (l : List TreeP.Fn) (w : World) (v : Value) (hw : wFs l ≤ 1048576) (hin : ProgIn w v l) (L : NLists w) :
  Calls Tryz.prog 3 #[v] w fun e w' => e = .returned (.bool true) ∧ Below w.heap.size w w' := by
 have C0 := hid (awake4 w L.tabs L.err)
 have CS := hid (fun W (hb : Below w.heap.size w W) => rSize_any l W v hw (hin.keep (Keeps.of_below hb)))
 have CR := hid (fun W (hb : Below w.heap.size w W) => rCheck_any l W v hw (hin.keep (Keeps.of_below hb)))
 have CP := hid (fun W (hb : Below w.heap.size w W) => check_any l v W hw (hin.keep (Keeps.of_below hb)) (L.tabs.below hb))
 have HE := hid L.err
 obtain ⟨n, hn⟩ : ∃ n, sizeFs 0 l = n := ⟨_, rfl⟩
 rw [hn] at CS
 obtain ⟨ca, hca⟩ : ∃ ca, checkN l = ca := ⟨_, rfl⟩
 rw [hca] at CR CP
 clear hn hca hin L hw
 by_cases h400 : 400 < n
 ·clear CR CP
  go_enter Tryz.func3, Tryz.ntmps3
  go_wp2_with fail
  refine C0.out.mono ?_
  rintro e W1 ⟨rfl, hb1⟩
  go_wp2_with fail
  refine (CS.out _ hb1).mono ?_
  rintro e W2 ⟨rfl, hb2⟩
  have B2 := hb1.trans (hb2.mono hb1.size)
  go_wp2_with fail
  go_ret
  exact ⟨rfl, B2⟩
 ·go_enter Tryz.func3, Tryz.ntmps3
  go_wp2_with fail
  refine C0.out.mono ?_
  rintro e W1 ⟨rfl, hb1⟩
  go_wp2_with fail
  refine (CS.out _ hb1).mono ?_
  rintro e W2 ⟨rfl, hb2⟩
  have B2 := hid (hb1.trans (hb2.mono hb1.size))
  clear hb1 hb2
  go_wp2_with fail
  refine (CR.out _ B2.out).mono ?_
  rintro e W3 ⟨rfl, hb3⟩
  have B3 := hid (B2.out.trans (hb3.mono B2.out.size))
  clear hb3 B2
  go_wp2_with fail
  refine (CP.out _ B3.out).mono ?_
  rintro e W4 h4
  have B4 := hid (B3.out.trans (h4.1.mono B3.out.size))
  obtain ⟨v4, rfl, ht⟩ := told_check h4 (HE.out.below B4.out)
  have TT := hid ht
  clear h4 ht B3
  go_wp2_with fail
  refine TT.out.mono ?_
  rintro e W5 ⟨rfl, hb5⟩
  go_wp2_with fail
  go_ret
  exact ⟨rfl, B4.out.trans (hb5.mono B4.out.size)⟩
/-- the program that has this type alone -/
def oneT (t : Ty) : TreeP.Fn := ⟨⟨#[]⟩, .slice none 0 0, [], .slice none 0 0, [], t, .slice none 0 0, [], .slice none 0 0, [], .mk 0 0 ⟨#[]⟩ false (.slice none 0 0) []⟩
theorem lies_nil {w : World} {size : Nat} : Lies w size (.slice none 0 0) [] := ⟨none, 0, rfl, by simp, fun h => absurd rfl h⟩
theorem oneT_in {w : World} {t : Ty} (h : t.In w) : (oneT t).In w :=
 ⟨lies_nil, ⟨lies_nil, fun p hp => by cases hp⟩, h, lies_nil, ⟨lies_nil, trivial⟩, by rw [oneT]; exact ⟨by omega, lies_nil, trivial⟩⟩
set_option maxHeartbeats 4000000 in
set_option maxRecDepth 100000 in
theorem namesWhole_any (t : Ty) (w : World) (hw : wT t ≤ 1048576) (hin : t.In w) (L : NLists w) :
  Calls Tryz.prog 4 #[t.val] w fun e w' => e = .returned (.bool true) ∧ Below w.heap.size w w' := by
 have hz : (⟨#[]⟩ : ByteArray).size = 0 := rfl
 have hwo : wFs [oneT t] ≤ 1048700 := by simp only [wFs, wF, oneT, wNs, wPas, wSs, wE, wEs, hz]; omega
 have hpo : ∀ f ∈ [oneT t], wT f.gives ≤ 1048576 ∧ wE f.value ≤ 1048576 ∧ wSs f.body ≤ 1048576 ∧ wPas f.pars ≤ 1048576 := fun f hf => by
  rw [List.mem_singleton] at hf
  subst hf
  simp only [oneT, wSs, wE, wEs, wPas, hz]
  omega
 have C0 := hid (fun W (hb : Below w.heap.size w W) => awake4 W (L.tabs.below hb) (L.err.below hb))
 have CS := hid (fun W (v : Value) (hp : ProgIn W v [oneT t]) => rSizeW_any [oneT t] W v hwo hpo hp)
 have CW := hid (fun W (hb : Below w.heap.size w W) => whole_any t W (by omega) (Ty.In.keep (Keeps.of_below hb) t hin))
 have CR := hid (fun W (hb : Below w.heap.size w W) => rWhole_any _ t W (Nat.le_refl _) (by omega) (Ty.In.keep (Keeps.of_below hb) t hin))
 obtain ⟨n, hn⟩ : ∃ n, sizeFs 0 [oneT t] = n := ⟨_, rfl⟩
 rw [hn] at CS
 have HP : Hid (∀ W, Below w.heap.size w W → ProgIn (W.alloc (.cells (oneT t).cells.toArray 42)) (.slice (some ⟨W.heap.size, 0, none⟩) 1 1) [oneT t]) := hid (fun W hb =>
  ⟨⟨_, 1, rfl, Nat.le_refl _, fun _ => ⟨W.heap.size, 0, rfl, fun i c hi j u hj => by
   have hi0 : i = 0 := by have := (List.getElem?_eq_some_iff.1 hi).1; simp at this; exact this
   subst hi0
   cases hi
   have := box_cell W (oneT t).cells 42 j u hj
   simpa using this⟩⟩, fun f hf => by
    rw [List.mem_singleton] at hf
    subst hf
    exact oneT_in (Ty.In.keep ((Keeps.of_below hb).trans (Keeps.alloc _ _)) t hin)⟩)
 obtain ⟨q, hq⟩ : ∃ q, wholeT t = q := ⟨_, rfl⟩
 rw [hq] at CW CR
 have ht0 := ty_ones hin
 obtain ⟨tk, tl, tm, tv, tks⟩ := t
 rw [Ty.In] at hin
 obtain ⟨_, _, _, rfl⟩ := slice_of hin.1
 rename_i tp tn tc
 simp only [Ty.val_mk] at CW CR ⊢
 have B0 := hid (show Below w.heap.size w (w.alloc (.cells #[.int .i64 tk, .string tl, .bool tm, .slice tp tn tc] 34)) from (Below.refl _ _).alloc (Nat.le_refl _) _)
 have X0 : Hid (BoxAt (w.alloc (.cells #[.int .i64 tk, .string tl, .bool tm, .slice tp tn tc] 34)) w.heap.size [.int .i64 tk, .string tl, .bool tm, .slice tp tn tc]) := hid (BoxAt.new w _ _)
 have C1 := hid (C0.out _ B0.out)
 clear hn hq hin L hw hwo hpo hz ht0 C0
 go_enter Tryz.func4, Tryz.ntmps4
 go_wp2_with fail
 refine C1.out.mono ?_
 rintro e W1 ⟨rfl, hb1⟩
 have B1 := hid (B0.out.trans (hb1.mono B0.out.size))
 have X1 := hid (X0.out.later hb1)
 have d0 := box_get X1.out (j := 0) rfl
 have d1 := box_get X1.out (j := 1) rfl
 have d2 := box_get X1.out (j := 2) rfl
 have d3 := box_get X1.out (j := 3) rfl
 clear hb1 B0 X0 C1
 have CS1 := hid (CS.out _ _ (HP.out W1 B1.out))
 have B2 := hid (show Below w.heap.size w (W1.alloc (.cells (oneT (.mk tk tl tm (.slice tp tn tc) tks)).cells.toArray 42)) from B1.out.alloc B1.out.size _)
 have X2 := hid (X1.out.later ((Below.refl W1.heap.size W1).alloc (Nat.le_refl _) (.cells (oneT (.mk tk tl tm (.slice tp tn tc) tks)).cells.toArray 42)))
 go_wp2_with fail
 refine Calls.mono (show Calls _ _ _ (W1.alloc (.cells (oneT (.mk tk tl tm (.slice tp tn tc) tks)).cells.toArray 42)) _ from CS1.out) ?_
 rintro e W3 ⟨rfl, hb3⟩
 have B3 := hid (B2.out.trans (hb3.mono B2.out.size))
 have X3 := hid (X2.out.later hb3)
 clear d0 d1 d2 d3 hb3 B1 X1 B2 X2 CS1 CS HP
 by_cases h400 : 400 < n
 ·go_wp2_with fail
  go_ret
  exact ⟨rfl, B3.out⟩
 ·have P1 := hid (reg_cells (w := W3) (b := w.heap.size) (off := 0) (cs := [.int .i64 tk, .string tl, .bool tm, .slice tp tn tc]) (fun j u h => by rw [Nat.zero_add]; exact X3.out j u h))
  have ZT : Hid ((Tryz.prog.info? 34).map (·.size) = some [Value.int .i64 tk, .string tl, .bool tm, .slice tp tn tc].length) := hid (show (Tryz.prog.info? 34).map (·.size) = some 4 by kernel_rfl)
  have D1 := hid (fun d os => Calls.regrown_of (CW.out (grow (redrawn W3 d) os) (B3.out.trans ((below_regrown W3 d os).mono B3.out.size))))
  have D2 := hid (fun d os => Calls.regrown_of (CR.out (grow (redrawn W3 d) os) (B3.out.trans ((below_regrown W3 d os).mono B3.out.size))))
  have k0 := cell_regrown (box_get X3.out (j := 0) rfl)
  have k1 := cell_regrown (box_get X3.out (j := 1) rfl)
  have k2 := cell_regrown (box_get X3.out (j := 2) rfl)
  have k3 := cell_regrown (box_get X3.out (j := 3) rfl)
  clear CW CR X3
  go_wp2_with fail
  refine wp_region_quiet_below (by kernel_rfl) (by kernel_rfl) ?_
  repeat (go_big_quiet_step (first | (with_reducible exact D1.out _ _) | (with_reducible exact D2.out _ _)))
  refine wpQuiet_nil ?_
  intro _ hw'
  obtain ⟨⟨dq, osq⟩, hw''⟩ := hw'
  subst hw''
  go_wp2_with fail
  go_ret
  exact ⟨ret_bool (by simp), B3.out.trans ((below_regrown W3 dq osq).mono B3.out.size)⟩
end Go.Proofs.YtemflcojebanlaaGreatDoor.NmC
/- An argument read as data: the tree of types, expressions, statements, functions that it is, how it lies in memory, and that it weighs at most the data's bulk. -/
namespace Go.Proofs.YtemflcojebanlaaGreatDoor.TreeO
open Go Go.RowKit Go.ChangeShapes Go.WideShapes LexP TreeP

theorem list_of {α : Type} {p : Nat → α → Prop} : ∀ n : Nat, (∀ i, i < n → ∃ x, p i x) → ∃ l : List α, l.length = n ∧ ∀ (i : Nat) (a : α), l[i]? = some a → p i a
 | 0, _ => ⟨[], rfl, fun i a h => by simp at h⟩
 | n + 1, h => by
  obtain ⟨l, hl, hp⟩ := list_of n fun i hi => h i (by omega)
  obtain ⟨x, hx⟩ := h n (by omega)
  refine ⟨l ++ [x], by simp [hl], fun i a hi => ?_⟩
  by_cases h1 : i < l.length
  ·rw [List.getElem?_append_left h1] at hi
   exact hp i a hi
  ·rw [List.getElem?_append_right (by omega)] at hi
   have hlt : i - l.length < [x].length := (List.getElem?_eq_some_iff.1 hi).1
   have e : i = n := by simp at hlt; omega
   subst e
   simp [hl] at hi
   subst hi
   exact hx
theorem sum_bulk {H α : Type} (wt : α → Nat) : ∀ (l : List α) (es : List (DataW H)), l.length = es.length → (∀ (i : Nat) (a : α) (y : DataW H), l[i]? = some a → es[i]? = some y → wt a ≤ Rows.uptoBulk y) → (l.map wt).sum ≤ Rows.uptoBulkAll es
 | [], [], _, _ => by simp
 | a :: l, y :: es, hl, h => by
  have h0 := h 0 a y rfl rfl
  have := sum_bulk wt l es (by simpa using hl) fun i b z hb hz => h (i + 1) b z (by simpa using hb) (by simpa using hz)
  simp only [List.map_cons, List.sum_cons, Rows.uptoBulkAll]
  omega
 | [], y :: es, hl, _ => by simp at hl
 | a :: l, [], hl, _ => by simp at hl

section
variable {H : Type} {enc : TypeId × Value → H} {w : World} {base : Nat} {sp : Nat → Bool} {hd : Bool}

theorem open_rows {α : Type} {P : Program} (cells : α → List Value) (Q : α → Prop) (wt : α → Nat) {t e : TypeId} {size n : Nat} {cs : List Value} {x : DataW H × List MemPlace}
  (ht : P.underlying t = some (.slice e)) (hc : P.cellsOf e = size) (hs : 0 < size)
  (ih : ∀ m, m < n → ∀ cs' y, DataW.trod enc P w base sp hd m e cs' = some y → ∃ a, cs' = cells a ∧ Q a ∧ wt a ≤ Rows.uptoBulk y.1)
  (h : DataW.trod enc P w base sp hd n t cs = some x) :
  ∃ (v : Value) (l : List α), cs = [v] ∧ Lies w size v (l.map cells) ∧ (∀ a ∈ l, Q a) ∧ 1 + (l.map wt).sum ≤ Rows.uptoBulk x.1 := by
 rcases DataW.trod_slice ht h with ⟨rfl, rfl⟩ | ⟨a, len, cap, elems, rest, m, rfl, rfl, rfl, hb, hl, hm, hlen, hel, _, _⟩
 ·exact ⟨_, [], rfl, ⟨none, 0, rfl, by simp, fun h => absurd rfl h⟩, by simp, by simp [Rows.uptoBulk]⟩
 ·have key : ∀ i, i < len → ∃ A : α, ∃ y, elems[i]? = some y ∧ w.cells? base (a.add (i * size)) size = some (cells A) ∧ Q A ∧ wt A ≤ Rows.uptoBulk y.1 := by
   intro i hi
   have h1 := hel i hi
   rw [hc, List.getElem?_eq_getElem (by omega)] at h1
   obtain ⟨cs', h2, h3⟩ := Option.bind_eq_some_iff.1 h1
   obtain ⟨A, rfl, hq, hw⟩ := ih m (by omega) cs' _ h3
   exact ⟨A, _, List.getElem?_eq_getElem _, h2, hq, hw⟩
  obtain ⟨l, hll, hp⟩ := list_of len key
  refine ⟨_, l, rfl, ⟨some a, cap, by simp [hll], by simp [hll]; omega, fun hne => ?_⟩, fun A hA => ?_, ?_⟩
  ·obtain ⟨b, off, spot⟩ := a
   have hpos : 0 < l.length := by
    cases l with
    | nil => exact absurd rfl hne
    | cons _ _ => simp
   obtain ⟨A0, hA0⟩ : ∃ A0, l[0]? = some A0 := ⟨_, List.getElem?_eq_getElem hpos⟩
   obtain ⟨y, _, h2, _, _⟩ := hp 0 A0 hA0
   obtain ⟨_, hlen0, hcell⟩ := World.cells?_some h2
   have g0 := hcell 0 hs
   obtain ⟨c0, hc0⟩ : ∃ c0, (cells A0)[0]? = some c0 := ⟨_, List.getElem?_eq_getElem (by omega)⟩
   rw [hc0] at g0
   have hspot : spot = none := by simpa [Addr.add] using World.cell?_spot g0
   subst hspot
   refine ⟨b, off, rfl, fun i c hi j u hj => ?_⟩
   rw [List.getElem?_map] at hi
   obtain ⟨A, hA, rfl⟩ := Option.map_eq_some_iff.1 hi
   obtain ⟨y, _, h2, _, _⟩ := hp i A hA
   obtain ⟨_, hlenA, hcell⟩ := World.cells?_some h2
   have hjlt : j < size := by rw [← hlenA]; exact (List.getElem?_eq_some_iff.1 hj).1
   have := hcell j hjlt
   rw [WideShapes.add_plain, WideShapes.add_plain, hj] at this
   exact this
  ·obtain ⟨i, hi, rfl⟩ := List.getElem_of_mem hA
   obtain ⟨y, _, _, hq, _⟩ := hp i _ (List.getElem?_eq_getElem hi)
   exact hq
  ·have := sum_bulk (H := H) wt l (elems.map (·.1)) (by simp [hll, hlen]) fun i A y hA hy => by
    obtain ⟨z, hz, _, _, hwz⟩ := hp i A hA
    rw [List.getElem?_map, hz] at hy
    simp at hy
    subst hy
    exact hwz
   simp only [Rows.uptoBulk]
   omega

theorem wTs_sum : ∀ l : List Ty, wTs l = (l.map wT).sum
 | [] => by simp [wTs]
 | t :: ts => by simp [wTs, wTs_sum ts]
theorem wEs_sum : ∀ l : List Ex, wEs l = (l.map wE).sum
 | [] => by simp [wEs]
 | t :: ts => by simp [wEs, wEs_sum ts]
theorem wSs_sum : ∀ l : List St, wSs l = (l.map wS).sum
 | [] => by simp [wSs]
 | t :: ts => by simp [wSs, wSs_sum ts]
theorem wPas_sum : ∀ l : List Pa, wPas l = (l.map wPa).sum
 | [] => by simp [wPas]
 | t :: ts => by simp [wPas, wPas_sum ts]
theorem wNs_sum : ∀ l : List ByteArray, wNs l = (l.map fun s => 1 + s.size).sum
 | [] => by simp [wNs]
 | t :: ts => by simp [wNs, wNs_sum ts]
theorem wFs_sum : ∀ l : List TreeP.Fn, wFs l = (l.map wF).sum
 | [] => by simp [wFs]
 | t :: ts => by simp [wFs, wFs_sum ts]
theorem size_toList (s : ByteArray) : s.data.toList.length = s.size := by rw [Array.length_toList]; rfl

theorem field {P : Program} {m : Nat} {fs : Array Field} {cs : List Value} {xs : List (DataW H × List MemPlace)} (hf : ∀ (i : Nat) (f : Field), fs[i]? = some f → DataW.trod enc P w base sp hd m f.type ((cs.drop f.offset).take (P.cellsOf f.type)) = xs[i]?)
  (i t o n : Nat) (h : (fs[i]?).map (fun f => (f.type, f.offset)) = some (t, o)) (hc : P.cellsOf t = n) : DataW.trod enc P w base sp hd m t ((cs.drop o).take n) = xs[i]? := by
 obtain ⟨f, h1, h2⟩ := Option.map_eq_some_iff.1 h
 have := hf i f h1
 simp only [Prod.mk.injEq] at h2
 obtain ⟨rfl, rfl⟩ := h2
 rw [hc] at this
 exact this
theorem c_int : Tryz.prog.cellsOf 3 = 1 := by kernel_rfl
theorem c_int64 : Tryz.prog.cellsOf 2 = 1 := by kernel_rfl
theorem c_string : Tryz.prog.cellsOf 9 = 1 := by kernel_rfl
theorem c_bool : Tryz.prog.cellsOf 4 = 1 := by kernel_rfl
theorem c_type : Tryz.prog.cellsOf 34 = 4 := by kernel_rfl
theorem c_expr : Tryz.prog.cellsOf 40 = 5 := by kernel_rfl
theorem c_stmt : Tryz.prog.cellsOf 68 = 14 := by kernel_rfl
theorem c_param : Tryz.prog.cellsOf 52 = 5 := by kernel_rfl
theorem c_fn : Tryz.prog.cellsOf 42 = 14 := by kernel_rfl
theorem c_types : Tryz.prog.cellsOf 32 = 1 := by kernel_rfl
theorem c_exprs : Tryz.prog.cellsOf 38 = 1 := by kernel_rfl
theorem c_stmts : Tryz.prog.cellsOf 37 = 1 := by kernel_rfl
theorem c_params : Tryz.prog.cellsOf 36 = 1 := by kernel_rfl
theorem c_strings : Tryz.prog.cellsOf 35 = 1 := by kernel_rfl

theorem open_ty (n : Nat) : ∀ (cs : List Value) (x : DataW H × List MemPlace), DataW.trod enc Tryz.prog w base sp hd n 34 cs = some x → ∃ T : Ty, cs = T.cells ∧ T.In w ∧ wT T ≤ Rows.uptoBulk x.1 := by
 induction n using Nat.strongRecOn with
 | ind n ih =>
 intro cs x h
 obtain ⟨xs, m, rfl, rfl, hlen, hxs, hf⟩ := DataW.trod_struct Tryz.underlying34 h
 rw [c_type] at hlen
 have f0 := field hf 0 3 0 1 rfl c_int
 have f1 := field hf 1 9 1 1 rfl c_string
 have f2 := field hf 2 4 2 1 rfl c_bool
 have f3 := field hf 3 32 3 1 rfl c_types
 clear hf h
 obtain ⟨x0, x1, x2, x3, rfl⟩ : ∃ a b c d, xs = [a, b, c, d] := by
  match xs, hxs with
  | [a, b, c, d], _ => exact ⟨a, b, c, d, rfl⟩
 obtain ⟨c0, c1, c2, c3, rfl⟩ : ∃ a b c d, cs = [a, b, c, d] := by
  match cs, hlen with
  | [a, b, c, d], _ => exact ⟨a, b, c, d, rfl⟩
 obtain ⟨k, e0, r0, _⟩ := DataW.trod_int Tryz.underlying3 f0
 obtain ⟨s, e1, r1, _⟩ := DataW.trod_string Tryz.underlying9 f1
 obtain ⟨b, e2, r2⟩ := DataW.trod_bool Tryz.underlying4 f2
 obtain ⟨v, l, e3, hlies, hq, hw⟩ := open_rows Ty.cells (Ty.In w) wT Tryz.underlying32 c_type (by decide) (fun j hj => ih j (by omega)) f3
 simp at e0 e1 e2 e3
 subst e0; subst e1; subst e2; subst e3; subst r0; subst r1; subst r2
 refine ⟨.mk k s b c3 l, rfl, ?_, ?_⟩
 ·rw [Ty.In, Ty.ins_iff]
  exact ⟨hlies, hq⟩
 ·simp only [wT, wTs_sum, List.map_cons, List.map_nil, Rows.uptoBulk, Rows.uptoBulkAll, size_toList]
  omega

theorem open_ex (n : Nat) : ∀ (cs : List Value) (x : DataW H × List MemPlace), DataW.trod enc Tryz.prog w base sp hd n 40 cs = some x → ∃ T : Ex, cs = T.cells ∧ T.In w ∧ wE T ≤ Rows.uptoBulk x.1 := by
 induction n using Nat.strongRecOn with
 | ind n ih =>
 intro cs x h
 obtain ⟨xs, m, rfl, rfl, hlen, hxs, hf⟩ := DataW.trod_struct Tryz.underlying40 h
 rw [c_expr] at hlen
 have f0 := field hf 0 3 0 1 rfl c_int
 have f1 := field hf 1 2 1 1 rfl c_int64
 have f2 := field hf 2 9 2 1 rfl c_string
 have f3 := field hf 3 4 3 1 rfl c_bool
 have f4 := field hf 4 38 4 1 rfl c_exprs
 clear hf h
 obtain ⟨x0, x1, x2, x3, x4, rfl⟩ : ∃ a b c d e, xs = [a, b, c, d, e] := by
  match xs, hxs with
  | [a, b, c, d, e], _ => exact ⟨a, b, c, d, e, rfl⟩
 obtain ⟨c0, c1, c2, c3, c4, rfl⟩ : ∃ a b c d e, cs = [a, b, c, d, e] := by
  match cs, hlen with
  | [a, b, c, d, e], _ => exact ⟨a, b, c, d, e, rfl⟩
 obtain ⟨k, e0, r0, _⟩ := DataW.trod_int Tryz.underlying3 f0
 obtain ⟨z, e1, r1, hz⟩ := DataW.trod_int Tryz.underlying2 f1
 obtain ⟨s, e2, r2, _⟩ := DataW.trod_string Tryz.underlying9 f2
 obtain ⟨b, e3, r3⟩ := DataW.trod_bool Tryz.underlying4 f3
 obtain ⟨v, l, e4, hlies, hq, hw⟩ := open_rows Ex.cells (Ex.In w) wE Tryz.underlying38 c_expr (by decide) (fun j hj => ih j (by omega)) f4
 simp at e0 e1 e2 e3 e4
 subst e0; subst e1; subst e2; subst e3; subst e4; subst r0; subst r1; subst r2; subst r3
 refine ⟨.mk k z s b c4 l, rfl, ?_, ?_⟩
 ·rw [Ex.In, Ex.ins_iff]
  exact ⟨bounds_i64 hz, hlies, hq⟩
 ·simp only [wE, wEs_sum, List.map_cons, List.map_nil, Rows.uptoBulk, Rows.uptoBulkAll, size_toList]
  omega

theorem open_st (n : Nat) : ∀ (cs : List Value) (x : DataW H × List MemPlace), DataW.trod enc Tryz.prog w base sp hd n 68 cs = some x → ∃ T : St, cs = T.cells ∧ T.In w ∧ wS T ≤ Rows.uptoBulk x.1 := by
 induction n using Nat.strongRecOn with
 | ind n ih =>
 intro cs x h
 obtain ⟨xs, m, rfl, rfl, hlen, hxs, hf⟩ := DataW.trod_struct Tryz.underlying68 h
 rw [c_stmt] at hlen
 have f0 := field hf 0 3 0 1 rfl c_int
 have f1 := field hf 1 9 1 1 rfl c_string
 have f2 := field hf 2 40 2 5 rfl c_expr
 have f3 := field hf 3 40 7 5 rfl c_expr
 have f4 := field hf 4 37 12 1 rfl c_stmts
 have f5 := field hf 5 37 13 1 rfl c_stmts
 clear hf h
 obtain ⟨x0, x1, x2, x3, x4, x5, rfl⟩ : ∃ a b c d e f, xs = [a, b, c, d, e, f] := by
  match xs, hxs with
  | [a, b, c, d, e, f], _ => exact ⟨a, b, c, d, e, f, rfl⟩
 obtain ⟨c0, c1, c2, c3, c4, c5, c6, c7, c8, c9, ca, cb, cc, cd, rfl⟩ : ∃ c0 c1 c2 c3 c4 c5 c6 c7 c8 c9 ca cb cc cd, cs = [c0, c1, c2, c3, c4, c5, c6, c7, c8, c9, ca, cb, cc, cd] := by
  match cs, hlen with
  | [c0, c1, c2, c3, c4, c5, c6, c7, c8, c9, ca, cb, cc, cd], _ => exact ⟨c0, c1, c2, c3, c4, c5, c6, c7, c8, c9, ca, cb, cc, cd, rfl⟩
 obtain ⟨k, e0, r0, _⟩ := DataW.trod_int Tryz.underlying3 f0
 obtain ⟨s, e1, r1, _⟩ := DataW.trod_string Tryz.underlying9 f1
 obtain ⟨p, e2, hpin, hpw⟩ := open_ex _ _ _ f2
 obtain ⟨q, e3, hqin, hqw⟩ := open_ex _ _ _ f3
 obtain ⟨tv, tl, e4, hlies4, hq4, hw4⟩ := open_rows St.cells (St.In w) wS Tryz.underlying37 c_stmt (by decide) (fun j hj => ih j (by omega)) f4
 obtain ⟨ev, el, e5, hlies5, hq5, hw5⟩ := open_rows St.cells (St.In w) wS Tryz.underlying37 c_stmt (by decide) (fun j hj => ih j (by omega)) f5
 obtain ⟨pk, pn, ps, pm, pv, pl⟩ := p
 obtain ⟨qk, qn, qs, qm, qv, ql⟩ := q
 simp [Ex.cells] at e0 e1 e2 e3 e4 e5
 obtain ⟨rfl, rfl, rfl, rfl, rfl⟩ := e2
 obtain ⟨rfl, rfl, rfl, rfl, rfl⟩ := e3
 subst e0; subst e1; subst e4; subst e5; subst r0; subst r1
 refine ⟨.mk k s (.mk pk pn ps pm c6 pl) (.mk qk qn qs qm cb ql) cc tl cd el, rfl, ?_, ?_⟩
 ·rw [St.In, St.ins_iff, St.ins_iff]
  exact ⟨hpin, hqin, hlies4, hq4, hlies5, hq5⟩
 ·simp only [wS, wSs_sum, List.map_cons, List.map_nil, Rows.uptoBulk, Rows.uptoBulkAll, size_toList]
  omega

theorem open_pa (n : Nat) (cs : List Value) (x : DataW H × List MemPlace) (h : DataW.trod enc Tryz.prog w base sp hd n 52 cs = some x) : ∃ T : Pa, cs = T.cells ∧ T.In w ∧ wPa T ≤ Rows.uptoBulk x.1 := by
 obtain ⟨xs, m, rfl, rfl, hlen, hxs, hf⟩ := DataW.trod_struct Tryz.underlying52 h
 rw [c_param] at hlen
 have f0 := field hf 0 9 0 1 rfl c_string
 have f1 := field hf 1 34 1 4 rfl c_type
 clear hf h
 obtain ⟨x0, x1, rfl⟩ : ∃ a b, xs = [a, b] := by
  match xs, hxs with
  | [a, b], _ => exact ⟨a, b, rfl⟩
 obtain ⟨c0, c1, c2, c3, c4, rfl⟩ : ∃ a b c d e, cs = [a, b, c, d, e] := by
  match cs, hlen with
  | [a, b, c, d, e], _ => exact ⟨a, b, c, d, e, rfl⟩
 obtain ⟨s, e0, r0, _⟩ := DataW.trod_string Tryz.underlying9 f0
 obtain ⟨p, e1, hpin, hpw⟩ := open_ty _ _ _ f1
 obtain ⟨pk, ps, pm, pv, pl⟩ := p
 simp [Ty.cells] at e0 e1
 obtain ⟨rfl, rfl, rfl, rfl⟩ := e1
 subst e0; subst r0
 refine ⟨⟨s, .mk pk ps pm c4 pl⟩, rfl, hpin, ?_⟩
 simp only [wPa, List.map_cons, List.map_nil, Rows.uptoBulk, Rows.uptoBulkAll, size_toList]
 omega

theorem open_names {n : Nat} {cs : List Value} {x : DataW H × List MemPlace} (h : DataW.trod enc Tryz.prog w base sp hd n 35 cs = some x) : ∃ (v : Value) (l : List ByteArray), cs = [v] ∧ Lies w 1 v (l.map nmCells) ∧ 1 + wNs l ≤ Rows.uptoBulk x.1 := by
 obtain ⟨v, l, e, hlies, _, hw⟩ := open_rows (α := ByteArray) nmCells (fun _ => True) (fun s => 1 + s.size) Tryz.underlying35 c_string (by decide) (fun j _ cs' y hy => by
  obtain ⟨s, rfl, e, _⟩ := DataW.trod_string Tryz.underlying9 hy
  exact ⟨s, rfl, trivial, by rw [e]; simp only [Rows.uptoBulk, size_toList]; omega⟩) h
 exact ⟨v, l, e, hlies, by rw [wNs_sum]; exact hw⟩

theorem open_fn (n : Nat) (cs : List Value) (x : DataW H × List MemPlace) (h : DataW.trod enc Tryz.prog w base sp hd n 42 cs = some x) : ∃ T : TreeP.Fn, cs = T.cells ∧ T.In w ∧ wF T ≤ Rows.uptoBulk x.1 := by
 obtain ⟨xs, m, rfl, rfl, hlen, hxs, hf⟩ := DataW.trod_struct Tryz.underlying42 h
 rw [c_fn] at hlen
 have f0 := field hf 0 9 0 1 rfl c_string
 have f1 := field hf 1 35 1 1 rfl c_strings
 have f2 := field hf 2 36 2 1 rfl c_params
 have f3 := field hf 3 34 3 4 rfl c_type
 have f4 := field hf 4 35 7 1 rfl c_strings
 have f5 := field hf 5 37 8 1 rfl c_stmts
 have f6 := field hf 6 40 9 5 rfl c_expr
 clear hf h
 obtain ⟨x0, x1, x2, x3, x4, x5, x6, rfl⟩ : ∃ a b c d e f g, xs = [a, b, c, d, e, f, g] := by
  match xs, hxs with
  | [a, b, c, d, e, f, g], _ => exact ⟨a, b, c, d, e, f, g, rfl⟩
 obtain ⟨c0, c1, c2, c3, c4, c5, c6, c7, c8, c9, ca, cb, cc, cd, rfl⟩ : ∃ c0 c1 c2 c3 c4 c5 c6 c7 c8 c9 ca cb cc cd, cs = [c0, c1, c2, c3, c4, c5, c6, c7, c8, c9, ca, cb, cc, cd] := by
  match cs, hlen with
  | [c0, c1, c2, c3, c4, c5, c6, c7, c8, c9, ca, cb, cc, cd], _ => exact ⟨c0, c1, c2, c3, c4, c5, c6, c7, c8, c9, ca, cb, cc, cd, rfl⟩
 obtain ⟨s, e0, r0, _⟩ := DataW.trod_string Tryz.underlying9 f0
 obtain ⟨v1, l1, e1, hl1, hw1⟩ := open_names f1
 obtain ⟨v2, l2, e2, hl2, hq2, hw2⟩ := open_rows Pa.cells (Pa.In w) wPa Tryz.underlying36 c_param (by decide) (fun j _ => open_pa j) f2
 obtain ⟨p, e3, hpin, hpw⟩ := open_ty _ _ _ f3
 obtain ⟨v4, l4, e4, hl4, hw4⟩ := open_names f4
 obtain ⟨v5, l5, e5, hl5, hq5, hw5⟩ := open_rows St.cells (St.In w) wS Tryz.underlying37 c_stmt (by decide) (fun j _ => open_st j) f5
 obtain ⟨q, e6, hqin, hqw⟩ := open_ex _ _ _ f6
 obtain ⟨pk, ps, pm, pv, pl⟩ := p
 obtain ⟨qk, qn, qs, qm, qv, ql⟩ := q
 simp [Ex.cells, Ty.cells] at e0 e1 e2 e3 e4 e5 e6
 obtain ⟨rfl, rfl, rfl, rfl⟩ := e3
 obtain ⟨rfl, rfl, rfl, rfl, rfl⟩ := e6
 subst e0; subst e1; subst e2; subst e4; subst e5; subst r0
 refine ⟨⟨s, c1, l1, c2, l2, .mk pk ps pm c6 pl, c7, l4, c8, l5, .mk qk qn qs qm cd ql⟩, rfl, ⟨hl1, ⟨hl2, hq2⟩, hpin, hl4, ⟨hl5, (St.ins_iff _ _).2 hq5⟩, hqin⟩, ?_⟩
 simp only [wF, wSs_sum, wPas_sum, List.map_cons, List.map_nil, Rows.uptoBulk, Rows.uptoBulkAll, size_toList]
 omega

set_option maxRecDepth 100000 in
theorem prog_nil {v : Value} {d : DataW H} {ps : List MemPlace} (h : DataW.Trod enc Tryz.prog w base sp hd 22 v d ps) : ∀ m c, v = .slice none m c → m = 0 ∧ c = 0 := by
 rintro m c rfl
 obtain ⟨n, hn⟩ := h
 rcases DataW.trod_slice Tryz.underlying22 hn with ⟨h1, _⟩ | ⟨a, len, cap, elems, rest, m, _, h1, _⟩
 ·simp [Value.cells] at h1
  exact h1
 ·simp [Value.cells] at h1
set_option maxRecDepth 100000 in
theorem open_prog {r : Reach} {b0 : Nat} {v : Value} {d : DataW H} {ps : List MemPlace} (hval : Value.okWide Tryz.prog w r b0 22 v) (h : DataW.Trod enc Tryz.prog w base sp hd 22 v d ps) :
  ∃ p, ProgIn w v p ∧ 1 + wFs p ≤ Rows.uptoBulk d := by
 obtain ⟨a, len, cap, rfl⟩ := okWide_slice Tryz.underlying22 hval
 obtain ⟨n, hn⟩ := h
 obtain ⟨u, l, e, hlies, hq, hw⟩ := open_rows Fn.cells (Fn.In w) wF Tryz.underlying22 c_fn (by decide) (fun j _ => open_fn j) hn
 simp [Value.cells] at e
 subst e
 exact ⟨l, ⟨hlies, hq⟩, by rw [wFs_sum]; exact hw⟩
set_option maxRecDepth 100000 in
theorem open_type {r : Reach} {b0 : Nat} {v : Value} {d : DataW H} {ps : List MemPlace} (hval : Value.okWide Tryz.prog w r b0 34 v) (h : DataW.Trod enc Tryz.prog w base sp hd 34 v d ps) :
  ∃ t : Ty, v = t.val ∧ t.In w ∧ wT t ≤ Rows.uptoBulk d := by
 obtain ⟨cs, rfl, _⟩ := okWide_struct Tryz.underlying34 hval
 obtain ⟨n, hn⟩ := h
 obtain ⟨T, e, hin, hw⟩ := open_ty n _ _ hn
 simp [Value.cells] at e
 exact ⟨T, by rw [Ty.val, ← e], hin, hw⟩
end
end Go.Proofs.YtemflcojebanlaaGreatDoor.TreeO
/- What the rows' list of library variables gives, and a world that meets it (the witness). -/
namespace Go.Proofs.YtemflcojebanlaaGreatDoor.NmR
open Go Go.RowKit Go.Lib LexP ErrAs LexC NmC

theorem laidOut : laidOutB Tryz.prog = true := by kernel_rfl
theorem own : ownKnob Tryz.prog.godebug = none := by kernel_rfl
theorem gEt : Tryz.prog.globalNamed "errors.errorType" = some 0 := by kernel_rfl
theorem rtNum : (Tryz.prog.cutTypes.find? (·.1 == "internal/reflectlite.rtype")).map (·.2) = some 145 := by kernel_rfl
theorem oneRow : ((List.range 247).filter fun t => Tryz.prog.rowNamed t [101, 114, 114, 111, 114]) = [29] := by kernel_rfl
theorem typesSize : Tryz.prog.types.size = 247 := by kernel_rfl
theorem firstIs : Go.Pinned.utf8First = Lib.firstData := by kernel_rfl
theorem acceptIs : (Rows.laid_unicode_utf8_acceptRanges : DataW Unit) = Lib.acceptData := by kernel_rfl
theorem u8 : Go.Proofs.U8Extra Tryz.prog Tryz.lays260_ren := { n3 := by kernel_rfl, n4 := by kernel_rfl, y3 := by kernel_rfl, y4 := by kernel_rfl, c5 := by kernel_rfl, c119 := by kernel_rfl, c138 := by kernel_rfl }

/-- the list, as the three rows have it -/
def theLaid : List (String × DataW Unit) := [("unicode/utf8.acceptRanges", Rows.laid_unicode_utf8_acceptRanges), ("errors.errorType", Rows.laid_errors_errorType), ("unicode/utf8.first", Rows.laid_unicode_utf8_first)]
theorem lists_of {W : World} (h : laidMetH Tryz.prog theLaid W) : NLists W := by
 have h' : laidMet Tryz.prog [("unicode/utf8.acceptRanges", Rows.laid_unicode_utf8_acceptRanges), ("unicode/utf8.first", Rows.laid_unicode_utf8_first)] W ∧ handlesMet Tryz.prog [("errors.errorType", Rows.laid_errors_errorType)] W := h
 constructor
 ·have r1 := laidMet.reads h'.1 (n := "unicode/utf8.first") (d := Rows.laid_unicode_utf8_first) (by simp)
  have r2 := laidMet.reads h'.1 (n := "unicode/utf8.acceptRanges") (d := Rows.laid_unicode_utf8_acceptRanges) (by simp)
  rw [show Rows.laid_unicode_utf8_first = Lib.firstData from firstIs] at r1
  rw [acceptIs] at r2
  exact Go.Proofs.utf8Tabs_of_reads Tryz.lays260 u8 r1 r2
 ·obtain ⟨name, u, ty, e1, e2, e3, e4, e5⟩ := h'.2 _ (List.mem_singleton.2 rfl)
  have en : name = [101, 114, 114, 111, 114] := (Option.some.inj e1).symm
  subst en
  obtain rfl := Option.some.inj (rtNum.symm.trans e2)
  have hm : ty ∈ (List.range 247).filter fun t => Tryz.prog.rowNamed t [101, 114, 114, 111, 114] := List.mem_filter.2 ⟨List.mem_range.2 (by rw [← typesSize]; exact e3), e4⟩
  rw [oneRow] at hm
  obtain rfl := List.mem_singleton.1 hm
  have hh : typeHandle Tryz.prog 29 = .pointer (some ⟨4, 29, none⟩) := by kernel_rfl
  rw [hh] at e5
  have := World.var?_cell gEt e5 0
  simpa [ErrVar] using this

/-- A world for the witness: the settled one, with the three variables laid. -/
noncomputable def laidWorld (os : Os) : World :=
 let w0 := World.holding Tryz.prog os ⟨#[], #[], []⟩
 { w0 with heap := ((w0.heap.modify 0 fun
   | .cells _ t frozen => .cells #[.iface 145 (.agg #[.pointer (some ⟨4, 29, none⟩)])] t frozen
   | o => o).modify 1 fun
   | .cells _ t frozen => .cells ((Array.range 256).map fun c => Value.int .u8 (Lib.firstT c)) t frozen
   | o => o).modify 2 fun
   | .cells _ t frozen => .cells ((Array.range 32).map fun c => Value.int .u8 (if c % 2 = 0 then Lib.accLo (c / 2) else Lib.accHi (c / 2))) t frozen
   | o => o }
theorem laid_met (os : Os) (args : Array Value) : laidMetH Tryz.prog theLaid ((laidWorld os).forCall (fun _ _ => 0) ⟨#[], args, []⟩).memory :=
 laidMetH_of_parts (laidMet_of_run' 8 (by kernel_rfl) (by kernel_rfl)) (by kernel_rfl)
end Go.Proofs.YtemflcojebanlaaGreatDoor.NmR
/- The closed facts of the row of namesWhole, one by one, and all of them. -/
namespace Go.Proofs.YtemflcojebanlaaGreatDoor.namesWhole
open Go.ChangeShapes Go.WideShapes Go.ChangeAt Go.RowKit
set_option maxRecDepth 100000 in
theorem fact0 : (Rows.namesWholeUptoRow.wf (OpenSpec.ofChange (Rows.OpenSpec.upto Rows.namesWholeSpec).bare)) = true := by kernel_rfl
set_option maxRecDepth 100000 in
theorem fact1 : (laidOutB Tryz.pinned.checked.prog) = true := by kernel_rfl
set_option maxRecDepth 100000 in
theorem fact2 : (mapsRowed Tryz.pinned.checked.prog) = true := by kernel_rfl
set_option maxRecDepth 100000 in
theorem fact3 : (Tryz.f4.params.all (Tryz.pinned.checked.prog.readableRec ·)) = true := by kernel_rfl
set_option maxRecDepth 100000 in
theorem fact4 : (namedTie Tryz.pinned.checked.prog Rows.namesWholeUptoRow.named (Rows.OpenSpec.upto Rows.namesWholeSpec).bare.vars) = true := by kernel_rfl
set_option maxRecDepth 100000 in
theorem fact5 : ((Rows.namesWholeUptoRow.stops == [])) = true := by kernel_rfl
set_option maxRecDepth 100000 in
theorem fact6 : ((Tryz.pinned.checked.prog.stops == [])) = true := by kernel_rfl
set_option maxRecDepth 100000 in
theorem fact7 : ((Rows.namesWholeUptoRow.knobs == [])) = true := by kernel_rfl
set_option maxRecDepth 100000 in
theorem fact8 : ((Tryz.pinned.checked.prog.stopKnobs == [])) = true := by kernel_rfl
set_option maxRecDepth 100000 in
theorem fact9 : ((Rows.namesWholeUptoRow.inPlace == Tryz.pinned.checked.prog.inPlace 4)) = true := by kernel_rfl
set_option maxRecDepth 100000 in
theorem fact10 : ((Rows.namesWholeUptoRow.unfollowed == Tryz.pinned.checked.prog.unfollowed 4)) = true := by kernel_rfl
set_option maxRecDepth 100000 in
theorem fact11 : ((Rows.namesWholeUptoRow.recurses == Tryz.pinned.checked.prog.recurses 4)) = true := by kernel_rfl
set_option maxRecDepth 100000 in
theorem fact12 : ((Rows.namesWholeUptoRow.named == Tryz.pinned.checked.prog.varsNamed 4)) = true := by kernel_rfl
set_option maxRecDepth 100000 in
theorem fact13 : ((Rows.namesWholeUptoRow.maps == (Tryz.f4.params.toList ++ (Rows.OpenSpec.upto Rows.namesWholeSpec).bare.plain.varTypes Tryz.pinned.checked.prog).any (Tryz.pinned.checked.prog.mapsRec ·))) = true := by kernel_rfl
set_option maxRecDepth 100000 in
theorem fact14 : ((Rows.namesWholeUptoRow.ifaces == (Tryz.f4.params.toList ++ (Rows.OpenSpec.upto Rows.namesWholeSpec).bare.plain.varTypes Tryz.pinned.checked.prog).any (Tryz.pinned.checked.prog.ifacesRec ·))) = true := by kernel_rfl
set_option maxRecDepth 100000 in
theorem fact15 : ((Rows.namesWholeUptoRow.mapsOut == Tryz.pinned.checked.prog.mapsAmong Tryz.f4.resultTypes.toList)) = true := by kernel_rfl
set_option maxRecDepth 100000 in
theorem fact16 : ((Rows.namesWholeUptoRow.loops == (Tryz.f4.params.toList ++ (Rows.OpenSpec.upto Rows.namesWholeSpec).bare.plain.varTypes Tryz.pinned.checked.prog).any (Tryz.pinned.checked.prog.loopsFrom ·))) = true := by kernel_rfl
set_option maxRecDepth 100000 in
theorem fact17 : ((Rows.namesWholeUptoRow.wideKeys == (Tryz.f4.params.toList ++ (Rows.OpenSpec.upto Rows.namesWholeSpec).bare.plain.varTypes Tryz.pinned.checked.prog ++ Tryz.f4.resultTypes.toList).any (Tryz.pinned.checked.prog.wideKeysFrom ·))) = true := by kernel_rfl
set_option maxRecDepth 100000 in
theorem fact18 : ((Rows.OpenSpec.upto Rows.namesWholeSpec).bare.vars.all (Tryz.pinned.checked.prog.varReadable ·)) = true := by kernel_rfl
set_option maxRecDepth 100000 in
theorem fact19 : (Tryz.f4.resultTypes.all (fun t => Tryz.pinned.checked.prog.readableRec t && decide (t < Tryz.pinned.checked.prog.types.size))) = true := by kernel_rfl
set_option maxRecDepth 100000 in
theorem fact20 : ((Rows.namesWholeUptoRow.ifacesOut == Tryz.f4.resultTypes.toList.any (Tryz.pinned.checked.prog.ifacesRec ·))) = true := by kernel_rfl
set_option maxRecDepth 100000 in
theorem fact21 : ((Rows.namesWholeUptoRow.loopsOut == Tryz.f4.resultTypes.toList.any (Tryz.pinned.checked.prog.loopsFrom ·))) = true := by kernel_rfl
set_option maxRecDepth 100000 in
theorem fact22 : ((Rows.namesWholeUptoRow.plainKeys == Tryz.pinned.checked.prog.plainKeys)) = true := by kernel_rfl
set_option maxRecDepth 100000 in
theorem fact23 : (Rows.namesWholeUptoRow.shortTexts.isNone) = true := by kernel_rfl
set_option maxRecDepth 100000 in
theorem fact24 : (Tryz.pinned.checked.prog.stopsHeard) = true := by kernel_rfl
set_option maxRecDepth 100000 in
theorem fact25 : (Tryz.pinned.checked.prog.mayEnter) = true := by kernel_rfl
set_option maxRecDepth 100000 in
theorem fact26 : ((Rows.namesWholeUptoRow.lifted == Tryz.pinned.checked.prog.liftsFinal)) = true := by kernel_rfl
set_option maxRecDepth 100000 in
theorem fact27 : ((Tryz.pinned.checked.prog.make == some Rows.namesWholeUptoRow.make)) = true := by kernel_rfl
set_option maxRecDepth 100000 in
theorem fact28 : ((Rows.namesWholeUptoRow.kinds == (if Rows.namesWholeUptoRow.domain.isEmpty then [] else Tryz.f4.params.toList.map fun t => match Tryz.pinned.checked.prog.underlying t with | some (.int k) => some k | _ => none))) = true := by kernel_rfl
set_option maxRecDepth 100000 in
theorem fact29 : ((Rows.namesWholeUptoRow.pinned == Rows.namesWholeUptoRow.pinnedBy)) = true := by kernel_rfl
set_option maxRecDepth 100000 in
theorem fact30 : ((Rows.namesWholeUptoRow.veiled == (Tryz.f4.params.toList ++ (Rows.OpenSpec.upto Rows.namesWholeSpec).bare.plain.varTypes Tryz.pinned.checked.prog ++ Tryz.f4.resultTypes.toList).any (Tryz.pinned.checked.prog.veiledRec ·))) = true := by kernel_rfl
set_option maxRecDepth 100000 in
theorem fact31 : (Rows.namesWholeUptoRow.veiledFits Tryz.pinned.checked.prog Tryz.f4.params.toList (Tryz.f4.params.toList ++ (Rows.OpenSpec.upto Rows.namesWholeSpec).bare.plain.varTypes Tryz.pinned.checked.prog ++ Tryz.f4.resultTypes.toList)) = true := by kernel_rfl
set_option maxRecDepth 100000 in
theorem closed : joinedFacts Tryz.pinned.checked.prog 4 Tryz.f4 (Rows.OpenSpec.upto Rows.namesWholeSpec).bare Rows.namesWholeUptoRow = true := by
 unfold joinedFacts
 simp only [Bool.and_eq_true]
 refine ⟨?_, fact31⟩
 refine ⟨?_, fact30⟩
 refine ⟨?_, fact29⟩
 refine ⟨?_, fact28⟩
 refine ⟨?_, fact27⟩
 refine ⟨?_, fact26⟩
 refine ⟨?_, fact25⟩
 refine ⟨?_, fact24⟩
 refine ⟨?_, fact23⟩
 refine ⟨?_, fact22⟩
 refine ⟨?_, fact21⟩
 refine ⟨?_, fact20⟩
 refine ⟨?_, fact19⟩
 refine ⟨?_, fact18⟩
 refine ⟨?_, fact17⟩
 refine ⟨?_, fact16⟩
 refine ⟨?_, fact15⟩
 refine ⟨?_, fact14⟩
 refine ⟨?_, fact13⟩
 refine ⟨?_, fact12⟩
 refine ⟨?_, fact11⟩
 refine ⟨?_, fact10⟩
 refine ⟨?_, fact9⟩
 refine ⟨?_, fact8⟩
 refine ⟨?_, fact7⟩
 refine ⟨?_, fact6⟩
 refine ⟨?_, fact5⟩
 refine ⟨?_, fact4⟩
 refine ⟨?_, fact3⟩
 refine ⟨?_, fact2⟩
 refine ⟨?_, fact1⟩
 exact fact0
end Go.Proofs.YtemflcojebanlaaGreatDoor.namesWhole
